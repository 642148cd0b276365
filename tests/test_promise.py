"""The main promise: no height told never to be above is, plans found in all ways cost the same, orders hold in every way."""

import unittest

from planwright.clauses import plan_by_clauses
from planwright.errors import NoPlan
from planwright.layers import check_rows, fewest_rows, side_by_side
from planwright.marks import height_by_cuts
from planwright.orders import loosest
from planwright.pairs import height_by_pairs
from planwright.problems import comes, from_state
from planwright.relaxed import best_relaxed, height_by_most
from planwright.searches import all_plans, backward, cheapest, check_heights, check_none, fewest
from planwright.tables import Table, greatest, summed, tables_of
from samples import edges, lamp, least_steps, rand_problem, true_costs, walk, wheels

LOTS = (("f0", "f1"), ("f2", "f3"), ("f4", "f5"))


def samples():
    """Return a number of small problems."""
    turned = wheels((3, 4), ["w0-2", "w1-3"])
    free = walk([("ab", "a", "b", 0), ("bc", "b", "c", 2), ("ac", "a", "c", 3), ("cd", "c", "d", 0), ("ae", "a", "e", 0)], "a", "d")
    return [lamp(), turned, free] + [rand_problem(seed) for seed in range(60)]


def heights_of(problem):
    """Return the functions of heights that are told never to be above."""
    whole = tables_of(problem, LOTS, False)
    shared = tables_of(problem, LOTS, True)
    all_facts = Table(problem, problem.all_facts())
    return [
        lambda state: height_by_most(problem, state),
        lambda state: height_by_cuts(problem, state),
        lambda state: height_by_pairs(problem, state),
        lambda state: greatest(whole, state),
        lambda state: summed(shared, state),
        all_facts.height,
        lambda state: None if best_relaxed(problem, state) is None else best_relaxed(problem, state)[0],
    ]


class PromiseTest(unittest.TestCase):
    def test_no_height_is_above_in_any_state(self):
        states = 0
        for problem in samples():
            heights = heights_of(problem)
            for state, cost in true_costs(problem).items():
                for place, height in enumerate(heights):
                    if cost is not None:
                        states += 1
                        self.assertIsNotNone(height(state), (problem.shown(), state, place))
                        self.assertLessEqual(height(state), cost, (problem.shown(), state, place))
        self.assertGreater(states, 1000)

    def test_searches_by_heights_and_back_find_what_is_cheapest(self):
        for problem in samples():
            cost = true_costs(problem)[problem.start]
            for height in [None] + heights_of(problem):
                if cost is None:
                    with self.assertRaises(NoPlan):
                        cheapest(problem, height=height)
                else:
                    self.assertEqual(cheapest(problem, height=height)[0], cost, problem.shown())
            if cost is not None:
                self.assertEqual(backward(problem)[0], cost, problem.shown())

    def test_what_is_found_is_shown(self):
        for problem in samples():
            costs = true_costs(problem)
            if costs[problem.start] is None:
                self.assertEqual(check_none(problem, list(costs)), len(costs))
            else:
                self.assertEqual(check_heights(problem, costs, cheapest(problem)[1]), costs[problem.start])
                self.assertEqual(check_heights(problem, costs, backward(problem)[1]), costs[problem.start])

    def test_plans_by_clauses_have_the_fewest_deeds(self):
        for problem in samples():
            steps = least_steps(problem)
            if steps is not None and steps < 5:
                plan = plan_by_clauses(problem, 4)
                self.assertTrue(comes(problem, plan))
                self.assertEqual([len(plan), len(fewest(problem))], [steps] * 2, problem.shown())

    def test_loosest_orders_come_to_the_goal_in_every_way(self):
        ways = 0
        for problem in samples():
            for plan in all_plans(problem, 4)[-4:]:
                order = loosest(problem, plan)
                self.assertIn(plan, order.plans())
                for way in order.plans():
                    ways += 1
                    self.assertTrue(comes(problem, way), (problem.shown(), plan))
        self.assertGreater(ways, 100)

    def test_rows_come_to_the_goal(self):
        for problem in samples():
            for plan in all_plans(problem, 4)[-4:]:
                rows = side_by_side(problem, plan)
                self.assertEqual(check_rows(problem, rows), len(plan))
                if len(rows) < 4:
                    self.assertLessEqual(len(fewest_rows(problem, 3)), len(rows))

    def test_the_same_from_each_state(self):
        for problem in samples()[:15]:
            for state in edges(problem):
                other = from_state(problem, state)
                cost = true_costs(problem)[state]
                if cost is not None:
                    self.assertEqual([cheapest(other)[0], backward(other)[0]], [cost] * 2)


if __name__ == "__main__":
    unittest.main()
