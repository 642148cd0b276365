"""The main promise: no height told never to be above is, plans found in all ways cost the same, orders hold in every way."""

import random
import unittest

from planwright.beliefs import blind_plan, check_blind, check_looking, looking_plan, run_looking
from planwright.chances import Chancy, check_sure, check_tried, other_end, outcomes, policy, sure, tried_on
from planwright.clauses import check_split, clauses_of, marked, plan_by_clauses, split_paper
from planwright.errors import BadPlan, NoPlan
from planwright.layers import check_rows, fewest_rows, first_layer, side_by_side
from planwright.likes import cheapest_by_likes, likes_of
from planwright.marks import height_by_cuts
from planwright.orders import loosest
from planwright.pairs import height_by_pairs
from planwright.problems import comes, from_state
from planwright.relaxed import best_relaxed, height_by_most
from planwright.searches import all_plans, backward, cheapest, check_heights, check_none, fewest
from planwright.tables import Table, greatest, summed, tables_of
from planwright.trees import free_methods, goal_tree, plan_of_tree
from planwright.wishes import best_gain, check_gain, costs_to, gain_heights, within_cost
from samples import behind, edges, lamp, least_steps, meets, rand_problem, true_costs, walk, wheels

LOTS = (("f0", "f1"), ("f2", "f3"), ("f4", "f5"))


def samples():
    """Return a number of small problems."""
    turned = wheels((3, 4), ["w0-2", "w1-3"])
    free = walk([("ab", "a", "b", 0), ("bc", "b", "c", 2), ("ac", "a", "c", 3), ("cd", "c", "d", 0), ("ae", "a", "e", 0)], "a", "d")
    return [lamp(), turned, free] + [rand_problem(seed) for seed in range(60)]


def heights_of(problem):
    """Return the functions of heights that are told never to be above."""
    whole = tables_of(problem, LOTS, False)
    shared = tables_of(problem, LOTS, True)
    all_facts = Table(problem, problem.all_facts())
    return [
        lambda state: height_by_most(problem, state),
        lambda state: height_by_cuts(problem, state),
        lambda state: height_by_pairs(problem, state),
        lambda state: greatest(whole, state),
        lambda state: summed(shared, state),
        all_facts.height,
        lambda state: None if best_relaxed(problem, state) is None else best_relaxed(problem, state)[0],
    ]


def chancy_of(problem, seed):
    """Return a problem whose deeds may end in another way too, the same for the same seed."""
    rand = random.Random(seed)
    facts = problem.all_facts()
    return Chancy(problem, {
        name: [other_end(deed, rand.sample(facts, 1), rand.sample(facts, rand.randint(0, 1)))]
        for name, deed in problem.deeds.items() if rand.random() < 0.5
    })


def rows_told(problem):
    """Return how few rows of deeds side by side come to the goal, None for more than three or none."""
    there = {problem.start}
    for count in range(4):
        if any(meets(problem, state) for state in there):
            return count
        there = {after for state in there for after in rows_behind(problem, state, state, [])}
    return None


def rows_behind(problem, state, here, row):
    """Return the states behind all rows of deeds that go on a row, each free of the others and done in a state."""
    found = {here}
    for place, deed in enumerate(problem.deeds.values()):
        if behind(state, deed) is not None and all(other[0] < place and free(deed, other[1]) for other in row):
            found |= rows_behind(problem, state, behind(here, deed), row + [(place, deed)])
    return found


def free(one, other):
    """Tell whether neither of two deeds takes away what the other needs or adds, nor adds what it bars."""
    for here, there in ((one, other), (other, one)):
        if set(here.drops) & (set(there.needs) | set(there.adds)) or set(here.adds) & set(there.bars):
            return False
    return True


class PromiseTest(unittest.TestCase):
    def test_no_height_is_above_in_any_state(self):
        states = 0
        for problem in samples():
            heights = heights_of(problem)
            for state, cost in true_costs(problem).items():
                for place, height in enumerate(heights):
                    if cost is not None:
                        states += 1
                        self.assertIsNotNone(height(state), (problem.shown(), state, place))
                        self.assertLessEqual(height(state), cost, (problem.shown(), state, place))
        self.assertGreater(states, 1000)

    def test_searches_by_heights_and_back_find_what_is_cheapest(self):
        for problem in samples():
            cost = true_costs(problem)[problem.start]
            for height in [None] + heights_of(problem):
                if cost is None:
                    with self.assertRaises(NoPlan):
                        cheapest(problem, height=height)
                else:
                    self.assertEqual(cheapest(problem, height=height)[0], cost, problem.shown())
            if cost is not None:
                self.assertEqual(backward(problem)[0], cost, problem.shown())

    def test_what_is_found_is_shown(self):
        for problem in samples():
            costs = true_costs(problem)
            if costs[problem.start] is None:
                self.assertEqual(check_none(problem, list(costs)), len(costs))
            else:
                self.assertEqual(check_heights(problem, costs, cheapest(problem)[1]), costs[problem.start])
                self.assertEqual(check_heights(problem, costs, backward(problem)[1]), costs[problem.start])

    def test_plans_by_clauses_have_the_fewest_deeds(self):
        for problem in samples():
            steps = least_steps(problem)
            if steps is not None and steps < 5:
                plan = plan_by_clauses(problem, 4)
                self.assertTrue(comes(problem, plan))
                self.assertEqual([len(plan), len(fewest(problem))], [steps] * 2, problem.shown())

    def test_loosest_orders_come_to_the_goal_in_every_way(self):
        ways = 0
        for problem in samples():
            for plan in all_plans(problem, 4)[-4:]:
                order = loosest(problem, plan)
                self.assertIn(plan, order.plans())
                for way in order.plans():
                    ways += 1
                    self.assertTrue(comes(problem, way), (problem.shown(), plan))
        self.assertGreater(ways, 100)

    def test_rows_come_to_the_goal(self):
        for problem in samples():
            for plan in all_plans(problem, 4)[-4:]:
                rows = side_by_side(problem, plan)
                self.assertEqual(check_rows(problem, rows), len(plan))
                if len(rows) < 4:
                    self.assertLessEqual(len(fewest_rows(problem, 3)), len(rows))

    def test_the_same_from_each_state(self):
        for problem in samples()[:15]:
            for state in edges(problem):
                other = from_state(problem, state)
                cost = true_costs(problem)[state]
                if cost is not None:
                    self.assertEqual([cheapest(other)[0], backward(other)[0]], [cost] * 2)

    def test_plans_by_likes_and_by_gains_cost_the_least(self):
        for problem in samples():
            cost = true_costs(problem)[problem.start]
            if cost is None:
                for call in (
                    lambda: cheapest_by_likes(problem, []), lambda: best_gain(problem, {}), lambda: within_cost(problem, {}, 99),
                ):
                    with self.assertRaises(NoPlan):
                        call()
                continue
            words = [name for name in ("f0", "f1") if name in problem.all_facts()]
            found = [
                cheapest_by_likes(problem, likes_of(problem, words))[:2], within_cost(problem, {}, 99)[1:],
                (-best_gain(problem, {})[0], best_gain(problem, {})[1]),
                min([row for state, row in costs_to(problem).items() if meets(problem, state)], key=lambda row: row[0]),
            ]
            for mine, plan in found:
                self.assertEqual([mine, problem.check(plan)], [cost, cost], problem.shown())
            heights = gain_heights(problem, {})
            self.assertEqual(check_gain(problem, {}, found[0][1], heights), -cost)

    def test_clauses_layers_and_short_plans_agree(self):
        agreed = 0
        for problem in samples():
            steps = least_steps(problem)
            plans = all_plans(problem, 4)
            self.assertEqual(min([len(plan) for plan in plans], default=None), steps if steps is None or steps < 5 else None)
            for count in range(3):
                clauses = clauses_of(problem, count)
                if steps is None or count < steps:
                    self.assertIsNone(marked(clauses))
                    self.assertGreater(check_split(clauses, split_paper(clauses)), 0)
            rows = rows_told(problem)
            if rows is not None:
                agreed += rows > 0
                found = fewest_rows(problem, 3)
                self.assertEqual(len(found), rows, problem.shown())
                self.assertLessEqual(check_rows(problem, found), sum(len(row) for row in found))
                self.assertLessEqual(rows, steps)
                if not problem.bars and not any(deed.bars for deed in problem.deeds.values()):
                    self.assertLessEqual(first_layer(problem), rows)
        self.assertGreater(agreed, 10)

    def test_every_end_of_a_policy_comes_to_the_goal(self):
        drawn = tried = 0
        for seed, problem in enumerate(samples() * 2):
            chancy = chancy_of(problem, seed)
            found, again = sure(chancy), tried_on(chancy)
            self.assertLessEqual(set(found), set(again))
            if problem.start in found:
                drawn += 1
                names = policy(found, problem.start)
                count = found[problem.start][1]
                self.assertEqual(check_sure(chancy, names, {state: steps for state, (_, steps) in found.items()}), count)
                self.assertTrue(all(meets(problem, state) for state in outcomes(chancy, names, count)))
            if problem.start in again:
                tried += 1
                names = policy(again, problem.start)
                self.assertGreater(check_tried(chancy, names), 0)
                self.draw(chancy, names, random.Random(seed))
        self.assertTrue(drawn > 20 and tried > 20, (drawn, tried))

    def draw(self, chancy, names, rand):
        """Draw ends of names till the goal is come to."""
        state = chancy.problem.start
        for _ in range(2000):
            if meets(chancy.problem, state):
                return
            state = rand.choice(chancy.after(state, names[state]))
        self.fail("the goal isn't come to")

    def test_every_state_of_blind_and_looking_plans_comes_to_the_goal(self):
        blind = looks = 0
        for seed, problem in enumerate(samples()):
            states = random.Random(seed).sample(sorted(edges(problem)), min(2, len(edges(problem))))
            try:
                plan = blind_plan(problem, states)
            except NoPlan:
                plan = None
            if plan is not None:
                blind += 1
                self.assertEqual(check_blind(problem, states, plan), problem.cost_of(plan))
                self.assertTrue(all(comes(from_state(problem, state), plan) for state in states))
            deep = looking_plan(problem, states, problem.all_facts(), 4)
            if plan is not None and len(plan) < 5:
                self.assertIsNotNone(deep)
            if deep is not None:
                looks += 1
                costs = [from_state(problem, state).check(run_looking(problem, state, deep)) for state in states]
                self.assertEqual(check_looking(problem, states, deep), max(costs))
        self.assertTrue(blind > 10 and looks > 15, (blind, looks))

    def test_every_part_of_a_task_tree_comes_to_the_goal(self):
        trees = 0
        for problem in samples():
            if "go" in problem.deeds:
                continue
            methods = free_methods(problem)
            steps = least_steps(problem)
            if steps is None or steps > 3:
                with self.assertRaises(BadPlan):
                    goal_tree(methods, "go", 4 if steps is None else steps)
                continue
            trees += 1
            tree = goal_tree(methods, "go", steps + 1)
            self.assertTrue(comes(problem, plan_of_tree(tree)))
            self.assertEqual(methods.check(tree, problem.start), problem.states_of(plan_of_tree(tree))[-1])
            self.assertTrue(meets(problem, methods.check(tree, problem.start)))
            for place, (after, _) in enumerate(edges(problem).items()):
                best = methods.best("go", after, 3)
                if best is not None and place < 8 and not problem.bars:
                    self.assertTrue(comes(from_state(problem, after), plan_of_tree(best[1])))
        self.assertGreater(trees, 15)

    def test_where_there_is_no_plan_the_states_show_it(self):
        none = 0
        for problem in samples():
            if true_costs(problem)[problem.start] is None:
                none += 1
                self.assertEqual(check_none(problem, list(costs_to(problem))), len(edges(problem)))
        self.assertGreater(none, 5)


if __name__ == "__main__":
    unittest.main()
