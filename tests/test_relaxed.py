"""Relaxed: what facts cost where deeds drop and bar nothing, heights, relaxed plans, and what is refused."""

import unittest

from planwright.deeds import Deed, plain
from planwright.errors import BadPaper, NoSuch
from planwright.problems import Problem
from planwright.relaxed import (
    best_relaxed, check_relaxed, closure, fact_costs, height_by_most, height_by_sum, in_order, lots, of_row, picks,
    relaxed, relaxed_plan, settlers,
)
from samples import edges, lamp, rand_problem, relaxed_facts, subsets, true_costs

SEEDS = range(80)


def tools():
    """Return a problem in which a saw and a hammer make a shed: s at 2, h at 3, w at 5 by both or 7 alone."""
    return Problem(
        ["home"],
        [
            plain("saw", ["home"], ["s"], ["home"], 2),
            plain("hammer", ["home"], ["h"], ["home"], 3),
            plain("buy", ["money"], ["w"], [], 1),
            plain("build", ["h", "s"], ["w"], ["s"], 2),
            plain("order", ["home"], ["w"], [], 6),
            plain("paint", ["w"], ["p"], [], 1),
        ],
        ["p", "w"],
    )


def far_costs(problem, state, summed):
    """Return what facts cost, worked out round by round from the costs of the round ahead."""
    costs = {fact: 0 for fact in state}
    for _ in range(60):
        found = dict(costs)
        for deed in problem.deeds.values():
            if set(deed.needs) <= set(costs):
                row = [costs[fact] for fact in deed.needs]
                ahead = sum(row) if summed else max(row + [0])
                for fact in deed.adds:
                    found[fact] = min(found.get(fact, 10 ** 6), deed.cost + ahead)
        costs = found
    return costs


class RelaxedTest(unittest.TestCase):
    def test_relaxed(self):
        problem = relaxed(lamp())
        self.assertEqual(problem.shown(), (("out",), (
            ("go", ("out",), (), ("in",), (), 2),
            ("light", ("in",), (), ("lit",), (), 0),
            ("break", ("in",), (), ("broken",), (), 1),
            ("fly", ("wings",), (), ("lit",), (), 9),
        ), ("lit",), ()))

    def test_the_problem_stays_as_it_is(self):
        problem = lamp()
        shown = problem.shown()
        relaxed(problem)
        self.assertEqual(problem.shown(), shown)


class FactCostsTest(unittest.TestCase):
    def test_the_most_of_needs(self):
        found = fact_costs(tools(), ("home",), False)
        self.assertEqual(found, {"home": 0, "s": 2, "h": 3, "w": 5, "p": 6})
        self.assertIs(type(found), dict)

    def test_the_sum_of_needs(self):
        self.assertEqual(fact_costs(tools(), ("home",), True), {"home": 0, "s": 2, "h": 3, "w": 6, "p": 7})

    def test_from_a_state(self):
        self.assertEqual(fact_costs(tools(), ("h", "s"), True), {"h": 0, "s": 0, "w": 2, "p": 3})
        self.assertEqual(fact_costs(tools(), ["money"], False), {"money": 0, "w": 1, "p": 2})
        self.assertEqual(fact_costs(tools(), (), False), {})

    def test_deeds_told_behind_those_that_need_them(self):
        deeds = [plain("c", ["b"], ["c"], [], 1), plain("b", ["a"], ["b"], [], 1), plain("a", [], ["a"], [], 1)]
        self.assertEqual(fact_costs(Problem([], deeds, []), (), False), {"a": 1, "b": 2, "c": 3})

    def test_a_cheaper_way_found_later(self):
        deeds = [plain("dear", [], ["x"], [], 9), plain("use", ["x"], ["y"], [], 1), plain("low", ["z"], ["x"], [], 1),
                 plain("z", [], ["z"], [], 1)]
        for summed in (False, True):
            self.assertEqual(fact_costs(Problem([], deeds, []), (), summed), {"x": 2, "y": 3, "z": 1})

    def test_bars_and_drops_do_not_count(self):
        deeds = [Deed("a", [], ["s"], ["x"], ["s"], 1), Deed("b", ["s", "x"], ["x2"], ["y"], [], 1)]
        self.assertEqual(fact_costs(Problem(["s"], deeds, []), ("s",), True), {"s": 0, "x": 1, "y": 2})

    def test_costs_of_nought(self):
        deeds = [plain("a", ["x"], ["y"], [], 0), plain("b", ["y"], ["x"], [], 0)]
        self.assertEqual(fact_costs(Problem([], deeds, []), (), True), {})
        self.assertEqual(fact_costs(Problem([], deeds, []), ("x",), True), {"x": 0, "y": 0})

    def test_many_problems(self):
        for seed in SEEDS:
            problem = rand_problem(seed)
            for state in edges(problem):
                for summed in (False, True):
                    self.assertEqual(fact_costs(problem, state, summed), far_costs(problem, state, summed), seed)

    def test_of_row(self):
        costs = {"a": 2, "b": 5, "c": 0}
        self.assertEqual(of_row(costs, ("a", "b", "c"), False), 5)
        self.assertEqual(of_row(costs, ["a", "b", "c"], True), 7)
        self.assertEqual(of_row(costs, ("a",), True), 2)
        for summed in (False, True):
            self.assertEqual(of_row(costs, (), summed), 0)
            self.assertEqual(of_row({}, [], summed), 0)
            self.assertIsNone(of_row(costs, ("a", "z"), summed))
        self.assertEqual(costs, {"a": 2, "b": 5, "c": 0})


class HeightsTest(unittest.TestCase):
    def test_by_most(self):
        self.assertEqual(height_by_most(tools(), ("home",)), 6)
        self.assertEqual(height_by_most(tools(), ("p", "w")), 0)
        self.assertEqual(height_by_most(tools(), ["w"]), 1)

    def test_by_sum(self):
        self.assertEqual(height_by_sum(tools(), ("home",)), 13)
        self.assertEqual(height_by_sum(tools(), ("h", "s")), 5)
        self.assertEqual(height_by_sum(tools(), ("p", "w", "x")), 0)

    def test_none_where_a_fact_can_not_be_come_to(self):
        for height in (height_by_most, height_by_sum):
            self.assertIsNone(height(tools(), ()))
            self.assertIsNone(height(tools(), ("p",)))

    def test_nought_where_nothing_is_asked(self):
        for height in (height_by_most, height_by_sum):
            self.assertEqual(height(Problem([], [], []), ()), 0)

    def test_barred_facts_of_the_goal_are_not_asked(self):
        problem = Problem(["a"], [], ["a"], ["b"])
        for height in (height_by_most, height_by_sum):
            self.assertEqual(height(problem, ("a", "b")), 0)

    def test_the_most_is_never_above_the_cost(self):
        for seed in SEEDS:
            problem = rand_problem(seed)
            for state, cost in true_costs(problem).items():
                if cost is not None:
                    self.assertLessEqual(height_by_most(problem, state), cost, seed)
                    self.assertIsNotNone(height_by_sum(problem, state), seed)


class SettlersTest(unittest.TestCase):
    def test_each_fact_by_a_deed_that_gives_it_at_its_cost(self):
        found = settlers(tools(), ("home",), fact_costs(tools(), ("home",), True))
        self.assertEqual(found, {"home": None, "s": "saw", "h": "hammer", "w": "order", "p": "paint"})
        self.assertIs(type(found), dict)

    def test_the_first_as_told_of_like_ones(self):
        for names in (("a", "b"), ("b", "a")):
            problem = Problem([], [plain(name, [], ["x"], [], 2) for name in names], ["x"])
            self.assertEqual(settlers(problem, (), {"x": 2}), {"x": names[0]})

    def test_deeds_are_gone_through_as_told_again_and_again(self):
        # y comes of late and of soon at the same cost; late's need is settled behind it, in the same round.
        deeds = [plain("late", ["x"], ["y"], [], 1), plain("x", [], ["x"], [], 1), plain("soon", [], ["y"], [], 2)]
        problem = Problem([], deeds, ["y"])
        self.assertEqual(settlers(problem, (), {"x": 1, "y": 2}), {"x": "x", "y": "soon"})
        turned = Problem([], [deeds[1], deeds[0], deeds[2]], ["y"])
        self.assertEqual(settlers(turned, (), {"x": 1, "y": 2}), {"x": "x", "y": "late"})
        behind = Problem([], deeds[:2], ["y"])
        self.assertEqual(settlers(behind, (), {"x": 1, "y": 2}), {"x": "x", "y": "late"})

    def test_a_ring_of_deeds_that_cost_nought(self):
        deeds = [plain("xy", ["x"], ["y"], [], 0), plain("yx", ["y"], ["x"], [], 0), plain("x", [], ["x"], [], 4)]
        problem = Problem([], deeds, ["y"])
        self.assertEqual(settlers(problem, (), {"x": 4, "y": 4}), {"x": "x", "y": "xy"})
        self.assertEqual(settlers(Problem([], deeds[:2], ["y"]), (), {}), {})

    def test_a_state_is_settled_by_none(self):
        problem = Problem(["s"], [plain("s", [], ["s"], [], 0)], ["s"])
        self.assertEqual(settlers(problem, ("s", "t"), {"s": 0, "t": 0}), {"s": None, "t": None})

    def test_other_costs_settle_nothing(self):
        self.assertEqual(settlers(tools(), ("home",), {"home": 0, "s": 1, "h": 3}), {"home": None, "h": "hammer"})
        self.assertEqual(settlers(tools(), ("home",), {"s": 2}), {"home": None})

    def test_costs_handed_in_stay_as_they_are(self):
        costs = fact_costs(tools(), ("home",), True)
        kept = dict(costs)
        settlers(tools(), ("home",), costs)
        self.assertEqual(costs, kept)

    def test_all_that_can_be_come_to_is_settled(self):
        for seed in SEEDS:
            problem = rand_problem(seed)
            for state in edges(problem):
                costs = far_costs(problem, state, True)
                found = settlers(problem, state, costs)
                self.assertEqual(set(found), set(costs), seed)
                there = list(state)
                for fact, name in found.items():
                    if fact in state:
                        self.assertIsNone(name)
                        continue
                    deed = problem.deeds[name]
                    self.assertIn(fact, deed.adds)
                    self.assertTrue(set(deed.needs) <= set(there), seed)
                    self.assertEqual(costs[fact], deed.cost + sum(costs[need] for need in deed.needs))
                    there.append(fact)


class RelaxedPlanTest(unittest.TestCase):
    def test_settlers_of_what_is_wanted(self):
        self.assertEqual(relaxed_plan(tools(), ("home",)), ("order", "paint"))
        self.assertEqual(relaxed_plan(tools(), ("h", "home")), ("saw", "build", "paint"))
        self.assertEqual(relaxed_plan(tools(), ["h", "s"]), ("build", "paint"))
        self.assertIs(type(relaxed_plan(tools(), ("home",))), tuple)

    def test_names_stand_as_they_were_told(self):
        deeds = [plain("c", ["b"], ["c"], [], 1), plain("a", [], ["a"], [], 1), plain("b", ["a"], ["b"], [], 1)]
        self.assertEqual(relaxed_plan(Problem([], deeds, ["c"]), ()), ("c", "a", "b"))

    def test_a_goal_that_is_there(self):
        self.assertEqual(relaxed_plan(tools(), ("p", "w")), ())
        self.assertEqual(relaxed_plan(Problem([], [], []), ()), ())
        self.assertEqual(relaxed_plan(tools(), ("w",)), ("paint",))

    def test_none_for_no_plan(self):
        self.assertIsNone(relaxed_plan(tools(), ()))
        self.assertIsNone(relaxed_plan(tools(), ("p",)))

    def test_many_problems(self):
        for seed in SEEDS:
            problem = rand_problem(seed)
            for state in edges(problem):
                names = relaxed_plan(problem, state)
                can = set(problem.goal) <= relaxed_facts(problem, state, list(problem.deeds))
                self.assertEqual(names is not None, can, seed)
                if can:
                    self.assertTrue(set(problem.goal) <= relaxed_facts(problem, state, names), seed)
                    self.assertEqual(names, tuple(name for name in problem.deeds if name in names), seed)
                    table = settlers(problem, state, far_costs(problem, state, True))
                    self.assertTrue(set(names) <= set(table.values()), seed)
                    for name in names:
                        wanted = set(problem.goal).union(*[problem.deeds[one].needs for one in names])
                        self.assertTrue(any(table[fact] == name for fact in wanted), seed)


class ClosureTest(unittest.TestCase):
    def test_closure(self):
        self.assertEqual(closure(tools(), ("home",), ["build", "saw", "hammer"]), ("h", "home", "s", "w"))
        self.assertEqual(closure(tools(), ["home"], ("build", "saw")), ("home", "s"))
        self.assertEqual(closure(tools(), ("x", "home"), ()), ("home", "x"))
        self.assertEqual(closure(tools(), (), list(tools().deeds)), ())
        self.assertIs(type(closure(tools(), [], [])), tuple)

    def test_no_such_name(self):
        for names in (["no"], ["saw", "no"], ("build", "")):
            with self.assertRaises(NoSuch):
                closure(tools(), ("home",), names)

    def test_many_problems(self):
        for seed in SEEDS:
            problem = rand_problem(seed)
            names = list(problem.deeds)[seed % 3:]
            for state in edges(problem):
                found = closure(problem, state, names)
                self.assertEqual(found, tuple(sorted(relaxed_facts(problem, state, names))), seed)


class BestRelaxedTest(unittest.TestCase):
    def test_the_least_cost(self):
        self.assertEqual(best_relaxed(tools(), ("home",)), (7, ("order", "paint")))
        self.assertEqual(best_relaxed(tools(), ("h", "home")), (5, ("saw", "build", "paint")))
        found = best_relaxed(tools(), ["h", "s"])
        self.assertEqual(found, (3, ("build", "paint")))
        self.assertEqual([type(row) for row in (found, found[1])], [tuple] * 2)

    def test_a_goal_that_is_there(self):
        self.assertEqual(best_relaxed(tools(), ("p", "w")), (0, ()))
        self.assertEqual(best_relaxed(Problem([], [], []), ()), (0, ()))

    def test_none_for_none(self):
        self.assertIsNone(best_relaxed(tools(), ()))
        self.assertIsNone(best_relaxed(tools(), ("p",)))

    def test_fewer_names_of_like_costs(self):
        deeds = [plain("a", [], ["x"], [], 1), plain("b", [], ["y"], [], 1), plain("both", [], ["x", "y"], [], 2)]
        self.assertEqual(best_relaxed(Problem([], deeds, ["x", "y"]), ()), (2, ("both",)))
        free = [plain("a", [], ["x"], [], 0), plain("b", ["x"], ["y"], [], 0), plain("c", [], ["y"], [], 0)]
        self.assertEqual(best_relaxed(Problem([], free, ["y"]), ()), (0, ("c",)))

    def test_fewer_costs_before_fewer_names(self):
        deeds = [plain("both", [], ["x", "y"], [], 3), plain("a", [], ["x"], [], 1), plain("b", [], ["y"], [], 1)]
        self.assertEqual(best_relaxed(Problem([], deeds, ["x", "y"]), ()), (2, ("a", "b")))

    def test_as_they_were_told(self):
        for names in (("a", "b", "c"), ("c", "a", "b"), ("b", "c", "a")):
            problem = Problem([], [plain(name, [], ["x"], [], 1) for name in names], ["x"])
            self.assertEqual(best_relaxed(problem, ()), (1, names[:1]))

    def test_deeds_that_settle_each_other_are_no_way(self):
        deeds = [plain("xy", ["x"], ["y"], [], 0), plain("yx", ["y"], ["x"], [], 0), plain("x", [], ["x"], [], 4)]
        self.assertEqual(best_relaxed(Problem([], deeds, ["y"]), ()), (4, ("xy", "x")))

    def test_many_problems(self):
        for seed in range(60):
            problem = rand_problem(seed)
            names = list(problem.deeds)
            for state, true in true_costs(problem).items():
                best = None
                for lot in subsets(names):
                    cost = sum(problem.deeds[name].cost for name in lot)
                    if best is None or cost < best[0]:
                        if set(problem.goal) <= relaxed_facts(problem, state, lot):
                            best = (cost, lot)
                self.assertEqual(best_relaxed(problem, state), best, seed)
                if true is not None:
                    self.assertLessEqual(best[0], true, seed)


class LotsTest(unittest.TestCase):
    def test_lots(self):
        self.assertEqual(lots(["b", "a", "c"]), [
            (), ("b",), ("a",), ("c",), ("b", "a"), ("b", "c"), ("a", "c"), ("b", "a", "c"),
        ])
        self.assertEqual(lots(("x",)), [(), ("x",)])
        self.assertEqual(lots([]), [()])

    def test_picks(self):
        self.assertEqual(picks(["b", "a", "c"], 2), [("b", "a"), ("b", "c"), ("a", "c")])
        self.assertEqual(picks(("b", "a"), 0), [()])
        self.assertEqual(picks(("b", "a"), 2), [("b", "a")])
        self.assertEqual(picks(("b", "a"), 3), [])
        self.assertEqual(picks([], 1), [])

    def test_kinds(self):
        self.assertIs(type(lots([])), list)
        self.assertIs(type(picks([], 0)), list)


class CheckRelaxedTest(unittest.TestCase):
    def test_what_deeds_cost(self):
        self.assertEqual(check_relaxed(tools(), ("home",), ("order", "paint")), 7)
        self.assertEqual(check_relaxed(tools(), ("home",), ["paint", "build", "hammer", "saw"]), 8)
        self.assertEqual(check_relaxed(tools(), ("p", "w"), ()), 0)
        self.assertEqual(check_relaxed(tools(), ("home",), ("order", "paint", "buy")), 8)

    def test_the_goal_is_not_come_to(self):
        for state, names in ((("home",), ("order",)), (("home",), ()), ((), tuple(tools().deeds)), (("p",), ())):
            with self.assertRaises(BadPaper):
                check_relaxed(tools(), state, names)

    def test_no_such_name(self):
        for names in (("no",), ("order", "paint", "no")):
            with self.assertRaises(NoSuch):
                check_relaxed(tools(), ("home",), names)
        with self.assertRaises(NoSuch):
            check_relaxed(Problem([], [], []), (), ("no",))

    def test_nothing_is_changed(self):
        problem, names = tools(), ["order"]
        shown = problem.shown()
        with self.assertRaises(BadPaper):
            check_relaxed(problem, ("home",), names)
        self.assertEqual(names, ["order"])
        self.assertEqual(problem.shown(), shown)


class InOrderTest(unittest.TestCase):
    def test_in_an_order_in_which_they_can_be_done(self):
        self.assertEqual(in_order(tools(), ("home",), ["paint", "build", "hammer", "saw"]), (
            "hammer", "saw", "build", "paint",
        ))
        self.assertEqual(in_order(tools(), ["home"], ("saw", "order")), ("saw", "order"))
        self.assertEqual(in_order(tools(), (), ()), ())
        self.assertIs(type(in_order(tools(), ("home",), ["order"])), tuple)

    def test_each_as_early_as_can_be(self):
        names = ["paint", "order", "hammer", "saw"]
        # Paint can be done behind order alone; hammer and saw could be done from the beginning on.
        self.assertEqual(in_order(tools(), ("home",), names), ("order", "hammer", "saw", "paint"))
        self.assertEqual(in_order(tools(), ("home", "w"), names), tuple(names))
        self.assertEqual(in_order(tools(), ("home",), ["order", "paint", "saw"]), ("order", "saw", "paint"))

    def test_one_that_can_not_be_done(self):
        for names in (["buy"], ["order", "buy"], ["build", "saw"], ["paint"]):
            kept = list(names)
            with self.assertRaises(BadPaper):
                in_order(tools(), ("home",), names)
            self.assertEqual(names, kept)

    def test_no_such_name(self):
        for names in (["no"], ["saw", "no"], ["buy", "no"]):
            with self.assertRaises(NoSuch):
                in_order(tools(), ("home",), names)

    def test_many_problems(self):
        for seed in SEEDS:
            problem = rand_problem(seed)
            names = list(problem.deeds)[::-1]
            if any(not set(problem.deeds[name].needs) <= relaxed_facts(problem, problem.start, names) for name in names):
                with self.assertRaises(BadPaper):
                    in_order(problem, problem.start, names)
                names = relaxed_plan(problem, problem.start) or ()
            found = in_order(problem, problem.start, names)
            self.assertEqual(sorted(found), sorted(names), seed)
            there = set(problem.start)
            for name in found:
                self.assertTrue(set(problem.deeds[name].needs) <= there, seed)
                there |= set(problem.deeds[name].adds)


if __name__ == "__main__":
    unittest.main()
