"""Wishes: what plans leave, worths within a cost, heights that show a gain, and what is refused."""

import random
import unittest

from planwright.deeds import Deed, plain
from planwright.errors import BadDeed, BadFact, BadPlan, BadSize, NoPlan, NoSuch
from planwright.problems import Problem, reached
from planwright.wishes import (
    all_lots, best_gain, check_gain, costs_to, dear, gain_heights, gain_of, with_wish, within_cost, worth_of,
)
from samples import behind, chain, edges, kinds, lamp, meets, rand_problem, true_costs, walk

SEEDS = range(80)
WORTHS = {"milk": 4, "tea": 7, "home": 1, "lost": -20}


def shop():
    """Return a problem of milk and tea that may be bought before one goes home."""
    return Problem(["shop"], [
        plain("milk", ["shop"], ["milk"], [], 3), plain("tea", ["shop"], ["tea"], [], 9),
        plain("go", ["shop"], ["home"], ["shop"], 1), plain("lose", ["home"], ["lost"], ["milk"], 0),
    ], ["home"], ["sold"])


def rand_worths(seed, problem):
    """Return worths of some facts, the same for the same seed."""
    rand = random.Random(seed)
    return {fact: rand.randint(-4, 8) for fact in problem.all_facts() if rand.random() < 0.7}


def ways(problem):
    """Return a dict of all states that can be come to to the least cost to each."""
    costs = {problem.start: 0}
    graph = edges(problem)
    for _ in graph:
        for state, rows in graph.items():
            for deed, after in rows:
                if state in costs and costs[state] + deed.cost < costs.get(after, 10 ** 6):
                    costs[after] = costs[state] + deed.cost
    return costs


def taken_told(problem):
    """Return (state, cost, plan) rows, cheapest first, then as they came, each once."""
    left, found, count = [(0, 0, problem.start, ())], {}, 0
    best = {problem.start: 0}
    while left:
        left.sort(key=lambda row: row[:2])
        cost, _, state, plan = left.pop(0)
        if state in found:
            continue
        found[state] = (cost, plan)
        for deed in problem.deeds.values():
            after = behind(state, deed)
            if after is not None and cost + deed.cost < best.get(after, 10 ** 6):
                best[after] = cost + deed.cost
                count += 1
                left.append((cost + deed.cost, count, after, plan + (deed.name,)))
    return found


class GainTest(unittest.TestCase):
    def test_worth_of(self):
        self.assertEqual(worth_of(WORTHS, ("milk", "tea", "x")), 11)
        self.assertEqual([worth_of(WORTHS, ["lost", "milk"]), worth_of(WORTHS, ()), worth_of({}, ["milk"])], [-16, 0, 0])

    def test_gain_of(self):
        for plan, told in ((("go",), 0), (["milk", "go"], 1), (("tea", "milk", "go"), -1), (("milk", "go", "lose"), -23)):
            self.assertEqual(gain_of(shop(), WORTHS, plan), told)
        self.assertEqual(gain_of(shop(), {}, ["milk", "go"]), -4)
        for plan in ((), ("milk",), ("milk", "tea")):
            with self.assertRaises(BadPlan):
                gain_of(shop(), WORTHS, plan)
        with self.assertRaises(BadDeed):
            gain_of(shop(), WORTHS, ("go", "milk"))
        with self.assertRaises(NoSuch):
            gain_of(shop(), WORTHS, ("go", "no"))

    def test_best_gain(self):
        self.assertEqual(best_gain(shop(), WORTHS), (1, ("milk", "go")))
        self.assertEqual(kinds(best_gain(shop(), WORTHS)), kinds((1, ("milk", "go"))))
        self.assertEqual(best_gain(shop(), {"tea": 20, "milk": 3}), (10, ("tea", "go")))
        self.assertEqual(best_gain(shop(), {"home": -5}), (-6, ("go",)))
        self.assertEqual(best_gain(shop(), {"lost": 2}), (1, ("go", "lose")))

    def test_wishes_of_nothing_worth(self):
        self.assertEqual(best_gain(shop(), {}), (-1, ("go",)))
        self.assertEqual(best_gain(shop(), {"milk": 0, "home": 0}), (-1, ("go",)))
        self.assertEqual(best_gain(Problem(["a"], [plain("d", [], ["b"], [])], ["a"]), {}), (0, ()))

    def test_the_nearest_state_of_those_that_leave_as_much(self):
        problem = walk([("far", "a", "c", 5), ("near", "a", "b", 2), ("on", "b", "d", 1)], "a", "q")
        problem = Problem(["a"], list(problem.deeds.values()), [])
        self.assertEqual(best_gain(problem, {"b": 2, "c": 5, "d": 3}), (0, ()))
        self.assertEqual(best_gain(problem, {"b": 3, "c": 6, "d": 4}), (1, ("near",)))
        self.assertEqual(best_gain(problem, {"c": 6, "d": 4}), (1, ("near", "on")))
        # Two that cost as much: the first that came.
        problem = Problem([], [plain("x", [], ["x"], []), plain("y", [], ["y"], [])], [])
        self.assertEqual(best_gain(problem, {"x": 2, "y": 2}), (2, ("x", "y")))
        self.assertEqual(best_gain(problem, {"y": 3, "x": 1}), (2, ("y",)))

    def test_no_plan(self):
        for problem in (walk([("d", "a", "b", 1)], "a", "q"), Problem(["a"], [], ["a"], []), Problem(["b"], [], [], ["b"])):
            if problem.goal == ("a",):
                self.assertEqual(best_gain(problem, {"a": -3}), (-3, ()))
                continue
            with self.assertRaises(NoPlan):
                best_gain(problem, WORTHS)
            with self.assertRaises(NoPlan):
                within_cost(problem, WORTHS, 99)
            with self.assertRaises(NoPlan):
                dear(problem, "a")
            self.assertEqual(all_lots(problem, ["a", "b"]), {})
            self.assertEqual(set(gain_heights(problem, WORTHS).values()), {None})

    def test_many(self):
        for seed in SEEDS:
            problem = rand_problem(seed)
            worths = rand_worths(seed, problem)
            gains = [
                sum(worths.get(fact, 0) for fact in state) - cost for state, cost in ways(problem).items()
                if meets(problem, state)
            ]
            if not gains:
                with self.assertRaises(NoPlan):
                    best_gain(problem, worths)
                continue
            gain, plan = best_gain(problem, worths)
            self.assertEqual([gain, gain_of(problem, worths, plan)], [max(gains)] * 2)
            heights = gain_heights(problem, worths)
            self.assertEqual(heights[problem.start], gain)
            self.assertEqual(check_gain(problem, worths, plan, heights), gain)
            near = [
                plan for state, (cost, plan) in taken_told(problem).items()
                if meets(problem, state) and worth_of(worths, state) - cost == gain
            ]
            self.assertEqual(plan, near[0])


class CostTest(unittest.TestCase):
    def test_costs_to(self):
        found = costs_to(shop())
        self.assertEqual(list(found.items())[:4], [
            (("shop",), (0, ())), (("home",), (1, ("go",))), (("home", "lost"), (1, ("go", "lose"))),
            (("milk", "shop"), (3, ("milk",))),
        ])
        self.assertEqual(kinds(list(found.items())[1]), kinds((("home",), (1, ("go",)))))
        self.assertEqual([type(found), costs_to(Problem([], [], []))], [dict, {(): (0, ())}])

    def test_a_cheaper_way_comes_anew(self):
        problem = walk([("ac", "a", "c", 5), ("ab", "a", "b", 2), ("ad", "a", "d", 3), ("bc", "b", "c", 1), ("de", "d", "e", 0)], "a", "c")
        self.assertEqual(list(costs_to(problem).items()), [
            (("a",), (0, ())), (("b",), (2, ("ab",))), (("d",), (3, ("ad",))), (("c",), (3, ("ab", "bc"))),
            (("e",), (3, ("ad", "de"))),
        ])

    def test_many(self):
        for seed in SEEDS:
            problem = rand_problem(seed)
            found = costs_to(problem)
            self.assertEqual({state: cost for state, (cost, _) in found.items()}, ways(problem))
            self.assertEqual(list(found.items()), list(taken_told(problem).items()))
            for state, (cost, plan) in found.items():
                self.assertEqual((problem.states_of(plan)[-1], problem.cost_of(plan)), (state, cost))

    def test_as_many_states_as_most_and_one_more(self):
        problem, many = shop(), len(reached(shop()))
        self.assertEqual(len(costs_to(problem, many)), many)
        asked = (
            lambda most: costs_to(problem, most), lambda most: best_gain(problem, WORTHS, most),
            lambda most: within_cost(problem, WORTHS, 99, most), lambda most: all_lots(problem, ["milk"], most),
            lambda most: gain_heights(problem, WORTHS, most),
        )
        for call in asked:
            call(many)
            for most in (1, many - 1):
                with self.assertRaises(BadSize):
                    call(most)

    def test_as_many_states_as_most_where_it_is_not_told(self):
        for call in (
            costs_to, lambda problem: best_gain(problem, {}), lambda problem: within_cost(problem, {}, 999),
            lambda problem: all_lots(problem, []), lambda problem: gain_heights(problem, {}),
            lambda problem: dear(problem, problem.goal[0]),
        ):
            call(chain(500))
            with self.assertRaises(BadSize):
                call(chain(501))

    def test_within_cost(self):
        for budget, told in (
            (1, (1, 1, ("go",))), (3, (1, 1, ("go",))), (4, (5, 4, ("milk", "go"))), (9, (5, 4, ("milk", "go"))),
            (10, (8, 10, ("tea", "go"))), (12, (8, 10, ("tea", "go"))), (13, (12, 13, ("milk", "tea", "go"))),
            (9999, (12, 13, ("milk", "tea", "go"))),
        ):
            self.assertEqual(within_cost(shop(), WORTHS, budget), told)
        self.assertEqual(kinds(within_cost(shop(), WORTHS, 4)), kinds((5, 4, ("milk", "go"))))

    def test_a_cost_of_nought_and_below(self):
        with self.assertRaises(NoPlan):
            within_cost(shop(), WORTHS, 0)
        problem = Problem(["a"], [plain("free", [], ["b"], [], 0), plain("dear", [], ["c"], [], 1)], ["a"])
        self.assertEqual(within_cost(problem, {"b": 1, "c": 5}, 0), (1, 0, ("free",)))
        self.assertEqual(within_cost(problem, {}, 0), (0, 0, ()))
        self.assertEqual(within_cost(problem, {"b": -1}, 1), (0, 0, ()))
        for budget in (-1, -10):
            with self.assertRaises(BadSize):
                within_cost(problem, {}, budget)

    def test_many_costs(self):
        for seed in SEEDS:
            problem = rand_problem(seed)
            worths = rand_worths(seed, problem)
            for budget in (0, 1, 3, 6, 50):
                rows = [
                    (-worth_of(worths, state), cost, place, plan)
                    for place, (state, (cost, plan)) in enumerate(taken_told(problem).items())
                    if meets(problem, state) and cost <= budget
                ]
                if rows:
                    worth, cost, _, plan = min(rows)
                    self.assertEqual(within_cost(problem, worths, budget), (-worth, cost, plan))
                else:
                    with self.assertRaises(NoPlan):
                        within_cost(problem, worths, budget)

    def test_all_lots(self):
        found = all_lots(shop(), ["tea", "milk", "tea", "q"])
        self.assertEqual(list(found.items()), [((), 1), (("milk",), 4), (("milk", "tea"), 13), (("tea",), 10)])
        self.assertEqual(kinds(list(found.items())), kinds([((), 1), (("m",), 4), (("m", "t"), 13), (("t",), 10)]))
        self.assertEqual([type(found), all_lots(shop(), ())], [dict, {(): 1}])
        # Home is there with every lot, lost and milk never are together.
        self.assertEqual(all_lots(shop(), ["home", "lost", "milk"]), {
            ("home",): 1, ("home", "lost"): 1, ("home", "milk"): 4,
        })
        for fact in ("", "A"):
            with self.assertRaises(BadFact):
                all_lots(shop(), ["milk", fact])

    def test_many_lots(self):
        for seed in SEEDS:
            problem = rand_problem(seed)
            wanted = problem.all_facts()[:3]
            told = {}
            for state, cost in ways(problem).items():
                if meets(problem, state):
                    lot = tuple(fact for fact in wanted if fact in state)
                    told[lot] = min(cost, told.get(lot, cost))
            found = all_lots(problem, wanted[::-1])
            self.assertEqual(list(found.items()), sorted(told.items()))


class HeightTest(unittest.TestCase):
    def test_gain_heights(self):
        found = gain_heights(shop(), WORTHS)
        self.assertEqual(list(found), list(reached(shop())))
        self.assertEqual([found[("shop",)], found[("home",)], found[("milk", "shop")], found[("home", "lost")]], [1, 1, 4, -19])
        self.assertEqual(type(found), dict)
        self.assertEqual(gain_heights(Problem(["b"], [], ["a"]), {"b": 5}), {("b",): None})
        problem = walk([("ab", "a", "b", 1), ("ac", "a", "c", 1)], "a", "b")
        self.assertEqual(gain_heights(problem, {"b": -3, "c": 9}), {("a",): -4, ("b",): -3, ("c",): None})

    def test_many_heights(self):
        for seed in SEEDS:
            problem = rand_problem(seed)
            worths = rand_worths(seed, problem)
            graph = edges(problem)
            told = {state: worth_of(worths, state) if meets(problem, state) else None for state in graph}
            for _ in graph:
                for state, rows in graph.items():
                    gains = [told[after] - deed.cost for deed, after in rows if told[after] is not None]
                    told[state] = max(gains + [told[state]] if told[state] is not None else gains, default=None)
            self.assertEqual(gain_heights(problem, worths), told)
            nought = gain_heights(problem, {})
            self.assertEqual(nought, {state: None if cost is None else -cost for state, cost in true_costs(problem).items()})

    def test_check_gain(self):
        heights = gain_heights(shop(), WORTHS)
        kept = dict(heights)
        self.assertEqual(check_gain(shop(), WORTHS, ["milk", "go"], heights), 1)
        self.assertEqual(heights, kept)
        # States that can't be come to from the start may be there, with what leads on from them.
        more = {**heights, ("q",): None, ("home", "q"): 1, ("home", "lost", "q"): 0}
        self.assertEqual(check_gain(shop(), WORTHS, ("milk", "go"), more), 1)
        for other in ({("home", "q"): 0}, {("home", "lost", "q"): 2}, {("home", "r"): 9}):
            with self.assertRaises(BadPlan):
                check_gain(shop(), WORTHS, ("milk", "go"), {**more, **other})

    def test_another_gain(self):
        heights = gain_heights(shop(), WORTHS)
        for plan in (("go",), ("tea", "go"), ("milk", "go", "lose")):
            with self.assertRaises(BadPlan):
                check_gain(shop(), WORTHS, plan, heights)
        for start in (0, 2, None):
            with self.assertRaises(BadPlan):
                check_gain(shop(), WORTHS, ("milk", "go"), {**heights, ("shop",): start})
        with self.assertRaises(BadPlan):
            check_gain(shop(), WORTHS, ("milk", "go"), {})

    def test_a_plan_that_leaves_less_isnt_shown(self):
        heights = gain_heights(shop(), WORTHS)
        low = {**heights, ("shop",): 0}
        with self.assertRaises(BadPlan):
            check_gain(shop(), WORTHS, ("go",), low)

    def test_too_low_and_missing(self):
        heights = gain_heights(shop(), WORTHS)
        for state in heights:
            for other in (None, heights[state] - 1):
                with self.assertRaises(BadPlan):
                    check_gain(shop(), WORTHS, ("milk", "go"), {**heights, state: other})
            with self.assertRaises(BadPlan):
                rest = {mine: height for mine, height in heights.items() if mine != state}
                check_gain(shop(), WORTHS, ("milk", "go"), rest)

    def test_none_where_no_goal_can_be_come_to(self):
        problem = walk([("ab", "a", "b", 1), ("ac", "a", "c", 1), ("cd", "c", "d", 0)], "a", "b")
        heights = {("a",): 4, ("b",): 5, ("c",): None, ("d",): None}
        self.assertEqual(check_gain(problem, {"b": 5}, ["ab"], heights), 4)
        self.assertEqual(check_gain(problem, {"b": 5}, ["ab"], {**heights, ("c",): 5, ("d",): 5}), 4)
        for other in ({("d",): 0}, {("c",): 6, ("d",): 6}, {("b",): None}, {("b",): 4}, {("b",): 6}):
            with self.assertRaises(BadPlan):
                check_gain(problem, {"b": 5}, ["ab"], {**heights, **other})

    def test_plans_refused(self):
        heights = gain_heights(shop(), WORTHS)
        for plan, error in (((), BadPlan), (("milk",), BadPlan), (("go", "go"), BadDeed), (("no",), NoSuch)):
            with self.assertRaises(error):
                check_gain(shop(), WORTHS, plan, heights)


class WishTest(unittest.TestCase):
    def test_with_wish(self):
        problem = shop()
        found = with_wish(problem, "milk")
        self.assertIsInstance(found, Problem)
        self.assertEqual(found.shown(), (("shop",), problem.shown()[1], ("home", "milk"), ("sold",)))
        self.assertEqual(with_wish(problem, "home").shown(), problem.shown())
        self.assertEqual(problem.goal, ("home",))
        with self.assertRaises(BadPlan):
            with_wish(problem, "sold")
        for fact in ("", "A", "a b"):
            with self.assertRaises(BadFact):
                with_wish(problem, fact)

    def test_dear(self):
        self.assertEqual([dear(shop(), fact) for fact in ("milk", "tea", "home", "lost")], [3, 9, 0, 0])
        self.assertIsNone(dear(shop(), "gold"))
        # The goal bars it, so that it can't be come to with it.
        self.assertIsNone(dear(shop(), "sold"))
        for fact in ("", "A"):
            with self.assertRaises(BadFact):
                dear(shop(), fact)

    def test_dear_past_a_count(self):
        problem = walk([("ab", "a", "b", 1), ("bc", "b", "c", 1), ("cd", "c", "d", 1)], "a", "b")
        self.assertEqual(dear(problem, "b", 2), 0)
        with self.assertRaises(BadSize):
            dear(problem, "b", 1)
        with self.assertRaises(BadSize):
            dear(problem, "c", 3)
        self.assertIsNone(dear(problem, "c", 4))

    def test_many(self):
        none = 0
        for seed in SEEDS:
            problem = rand_problem(seed)
            cost = true_costs(problem)[problem.start]
            for fact in problem.all_facts():
                if cost is None:
                    with self.assertRaises(NoPlan):
                        dear(problem, fact)
                    continue
                good = [far for state, far in ways(problem).items() if meets(problem, state) and fact in state]
                none += not good
                self.assertEqual(dear(problem, fact), min(good) - cost if good else None)
        self.assertGreater(none, 5)

    def test_goals_that_bar_facts(self):
        problem = lamp()
        self.assertEqual(best_gain(problem, {"lit": 5, "broken": 100}), (3, ("go", "light")))
        self.assertEqual(gain_of(problem, {"lit": 5}, ("go", "light")), 3)
        self.assertEqual(all_lots(problem, ["broken", "in", "lit"]), {("in", "lit"): 2})
        self.assertEqual(best_gain(Problem([], [Deed("d", [], [], ["x"], [])], [], ["x"]), {"x": 9}), (0, ()))


if __name__ == "__main__":
    unittest.main()
