"""Marks: facts and deeds that every plan goes by, cuts, and what is refused."""

import unittest

from planwright.deeds import Deed, plain
from planwright.errors import BadFact, BadPaper, NoSuch
from planwright.marks import (
    Priced, PricedDeed, ahead_of, check_cuts, comes_to, costs_with, count_marks, cut_lots, deed_marks, fact_marks,
    goal_zone, height_by_cuts, one_cut,
)
from planwright.problems import Problem
from planwright.relaxed import best_relaxed, height_by_most
from samples import edges, lamp, rand_problem, relaxed_facts, true_costs, walk

SEEDS = range(80)


def ways():
    """Return a problem of two ways from a to d, by b or by c, and one way on to e; z can't be come to."""
    return Problem(["a"], [
        plain("ab", ["a"], ["b"], ["a"], 1),
        plain("ac", ["a"], ["c"], ["a"], 2),
        plain("bd", ["b"], ["d"], ["b"], 3),
        plain("cd", ["c"], ["d"], ["c"], 1),
        plain("de", ["d"], ["e"], ["d"], 2),
        plain("zz", ["z"], ["z", "e"], [], 0),
    ], ["e"])


def both():
    """Return a problem of a goal of two facts, both by way of m; a deed that costs nought stands between."""
    return Problem(["s"], [
        plain("go", ["s"], ["m"], [], 2),
        plain("x", ["m"], ["x"], [], 3),
        plain("y", ["k"], ["y"], [], 4),
        plain("k", ["m"], ["k"], [], 0),
        plain("dear", ["s"], ["y"], [], 5),
    ], ["x", "y"])


def cuts_told(problem, state):
    """Return the lots of cuts, worked out as the document tells them."""
    deeds = list(problem.deeds.values())
    left = {deed.name: deed.cost for deed in deeds}
    found = []
    while True:
        costs = {fact: 0 for fact in state}
        for _ in range(40):
            for deed in deeds:
                if all(fact in costs for fact in deed.needs):
                    ahead = max([costs[fact] for fact in deed.needs] + [0])
                    for fact in deed.adds:
                        costs[fact] = min(costs.get(fact, 10 ** 6), left[deed.name] + ahead)
        if any(fact not in costs for fact in problem.goal):
            return None
        most = max([costs[fact] for fact in problem.goal] + [0])
        if most == 0:
            return tuple(found)
        zone = {[fact for fact in problem.goal if costs[fact] == most][0]}
        for _ in range(40):
            for deed in deeds:
                if left[deed.name] == 0 and zone & set(deed.adds) and deed.needs and set(deed.needs) <= set(costs):
                    top = max(costs[fact] for fact in deed.needs)
                    zone.add([fact for fact in deed.needs if costs[fact] == top][0])
        there = set(state) - zone
        for _ in range(40):
            for deed in deeds:
                if set(deed.needs) <= there:
                    there |= set(deed.adds) - zone
        names = tuple(deed.name for deed in deeds if set(deed.needs) <= there and zone & set(deed.adds))
        least = min(left[name] for name in names)
        for name in names:
            left[name] -= least
        found.append((names, least))


class FactMarksTest(unittest.TestCase):
    def test_facts_that_every_plan_has(self):
        self.assertEqual(fact_marks(ways(), ("a",)), ("a", "d", "e"))
        self.assertEqual(fact_marks(ways(), ("b",)), ("b", "d", "e"))
        self.assertEqual(fact_marks(both(), ["s"]), ("m", "s", "x", "y"))
        self.assertIs(type(fact_marks(ways(), ("a",))), tuple)

    def test_all_facts_of_the_state_are_marks(self):
        self.assertEqual(fact_marks(ways(), ("a", "b", "q")), ("a", "b", "d", "e", "q"))
        self.assertEqual(fact_marks(ways(), ("e", "q")), ("e", "q"))

    def test_none_where_the_goal_can_not_be_come_to(self):
        self.assertIsNone(fact_marks(ways(), ()))
        self.assertIsNone(fact_marks(ways(), ("q",)))

    def test_no_goal(self):
        self.assertEqual(fact_marks(Problem([], [plain("x", [], ["x"], [])], []), ()), ())

    def test_words_that_are_no_facts(self):
        with self.assertRaises(BadFact):
            fact_marks(ways(), ("a", "A"))

    def test_many_problems(self):
        for seed in SEEDS:
            problem = rand_problem(seed)
            goal, names = set(problem.goal), list(problem.deeds)
            for state in edges(problem):
                if not goal <= relaxed_facts(problem, state, names):
                    self.assertIsNone(fact_marks(problem, state), seed)
                    self.assertIsNone(deed_marks(problem, state), seed)
                    self.assertIsNone(count_marks(problem, state), seed)
                    self.assertFalse(comes_to(problem, state, names))
                    continue
                facts = set(state)
                for fact in problem.all_facts():
                    rest = [name for name in names if fact not in problem.deeds[name].adds]
                    if not goal <= relaxed_facts(problem, state, rest):
                        facts.add(fact)
                self.assertEqual(fact_marks(problem, state), tuple(sorted(facts)), seed)
                self.assertEqual(count_marks(problem, state), len(facts - set(state)), seed)
                deeds = []
                for name in names:
                    rest = [one for one in names if one != name]
                    if not goal <= relaxed_facts(problem, state, rest):
                        deeds.append(name)
                self.assertEqual(deed_marks(problem, state), tuple(deeds), seed)
                self.assertTrue(comes_to(problem, state, names))


class ComesToTest(unittest.TestCase):
    def test_comes_to(self):
        self.assertIs(comes_to(ways(), ("a",), ["de", "cd", "ac"]), True)
        self.assertIs(comes_to(ways(), ["a"], ("de", "bd", "ac")), False)
        self.assertIs(comes_to(ways(), ("e",), ()), True)
        self.assertIs(comes_to(lamp(), ("broken", "in"), ["light"]), True)
        self.assertIs(comes_to(both(), ("s", "x"), ["go", "x"]), False)

    def test_no_such_name(self):
        for problem in (ways(), Problem([], [], [])):
            with self.assertRaises(NoSuch):
                comes_to(problem, ("a",), ["no"])


class DeedMarksTest(unittest.TestCase):
    def test_deeds_that_every_plan_has(self):
        self.assertEqual(deed_marks(ways(), ("a",)), ("de",))
        self.assertEqual(deed_marks(ways(), ["b"]), ("bd", "de"))
        self.assertEqual(deed_marks(both(), ("s",)), ("go", "x"))
        self.assertEqual(deed_marks(ways(), ("e",)), ())
        self.assertIs(type(deed_marks(ways(), ("a",))), tuple)

    def test_none_for_no_plan(self):
        self.assertIsNone(deed_marks(ways(), ()))


class AheadTest(unittest.TestCase):
    def test_what_is_ahead_of_a_fact(self):
        self.assertEqual(ahead_of(ways(), ("a",), "e"), ("a", "d"))
        self.assertEqual(ahead_of(ways(), ["a"], "d"), ("a",))
        self.assertEqual(ahead_of(both(), ("s",), "x"), ("m", "s"))
        self.assertEqual(ahead_of(both(), ("s",), "k"), ("m", "s"))
        self.assertEqual(ahead_of(both(), ("s",), "y"), ("s",))
        self.assertIs(type(ahead_of(ways(), ("a",), "e")), tuple)

    def test_the_states_own_always(self):
        self.assertEqual(ahead_of(ways(), ("a", "q"), "e"), ("a", "d", "q"))
        self.assertEqual(ahead_of(ways(), ("a", "d"), "d"), ("a", "d"))
        self.assertEqual(ahead_of(ways(), ("q",), "q"), ("q",))

    def test_none_where_it_can_not_be_come_to(self):
        for fact in ("z", "nowhere", "A"):
            self.assertIsNone(ahead_of(ways(), ("a",), fact))
        self.assertIsNone(ahead_of(ways(), (), "a"))

    def test_words_that_are_no_facts(self):
        with self.assertRaises(BadFact):
            ahead_of(ways(), ("a", "A"), "b")

    def test_many_problems(self):
        for seed in SEEDS:
            problem = rand_problem(seed)
            names = list(problem.deeds)
            for state in edges(problem):
                for fact in problem.all_facts():
                    if fact not in relaxed_facts(problem, state, names):
                        self.assertIsNone(ahead_of(problem, state, fact), seed)
                        continue
                    found = set(state)
                    for other in problem.all_facts():
                        rest = [name for name in names if other not in problem.deeds[name].adds]
                        if other != fact and fact not in relaxed_facts(problem, state, rest):
                            found.add(other)
                    self.assertEqual(ahead_of(problem, state, fact), tuple(sorted(found)), seed)


class CutsTest(unittest.TestCase):
    def test_cut_lots(self):
        self.assertEqual(cut_lots(ways(), ("a",)), ((("de",), 2), (("bd", "cd"), 1), (("ac", "bd"), 2)))
        found = cut_lots(both(), ["s"])
        self.assertEqual(found, ((("x",), 3), (("y", "dear"), 4), (("go",), 2)))
        self.assertEqual([type(row) for row in (found, found[0], found[0][0])], [tuple] * 3)

    def test_a_deed_that_costs_nought_carries_the_zone_on(self):
        problem = walk([("ab", "a", "b", 3), ("bc", "b", "c", 0), ("cd", "c", "d", 0)], "a", "d")
        self.assertEqual(cut_lots(problem, ("a",)), ((("ab",), 3),))

    def test_the_first_of_the_dearest(self):
        deeds = [plain("y", [], ["y"], [], 2), plain("x", [], ["x"], [], 2), plain("w", [], ["w"], [], 1)]
        problem = Problem([], deeds, ["w", "x", "y"])
        self.assertEqual(cut_lots(problem, ()), ((("x",), 2), (("y",), 2), (("w",), 1)))

    def test_a_goal_that_is_there(self):
        self.assertEqual(cut_lots(ways(), ("e",)), ())
        self.assertEqual(cut_lots(Problem([], [], []), ()), ())
        self.assertEqual(height_by_cuts(ways(), ("e",)), 0)

    def test_deeds_that_cost_nought(self):
        problem = walk([("ab", "a", "b", 0), ("bc", "b", "c", 0)], "a", "c")
        self.assertEqual(cut_lots(problem, ("a",)), ())
        self.assertEqual(height_by_cuts(problem, ("a",)), 0)

    def test_none_for_no_plan(self):
        self.assertIsNone(cut_lots(ways(), ()))
        self.assertIsNone(height_by_cuts(ways(), ()))
        self.assertIsNone(height_by_cuts(both(), ("x",)))

    def test_height_by_cuts(self):
        self.assertEqual(height_by_cuts(ways(), ("a",)), 5)
        self.assertEqual(height_by_cuts(ways(), ["b"]), 5)
        self.assertEqual(height_by_cuts(both(), ("s",)), 9)
        self.assertEqual(height_by_cuts(lamp(), ("out",)), 2)

    def test_many_problems(self):
        sharper = 0
        for seed in SEEDS:
            problem = rand_problem(seed)
            for state, cost in true_costs(problem).items():
                told = cuts_told(problem, state)
                self.assertEqual(cut_lots(problem, state), told, seed)
                if told is None:
                    self.assertIsNone(cost)
                    self.assertIsNone(height_by_cuts(problem, state))
                    continue
                height = height_by_cuts(problem, state)
                self.assertEqual(height, sum(one for _, one in told))
                self.assertEqual(check_cuts(problem, state, told), height, seed)
                self.assertLessEqual(height_by_most(problem, state), height)
                self.assertLessEqual(height, best_relaxed(problem, state)[0], seed)
                if cost is not None:
                    self.assertLessEqual(height, cost, seed)
                sharper += height > height_by_most(problem, state)
        self.assertGreater(sharper, 3)

    def test_nothing_is_changed(self):
        problem = ways()
        shown = problem.shown()
        cut_lots(problem, ("a",))
        self.assertEqual(problem.shown(), shown)


class PricedTest(unittest.TestCase):
    COSTS = {"ab": 0, "ac": 7, "bd": 0, "cd": 0, "de": 4, "zz": 9}

    def test_priced(self):
        priced = Priced(ways(), self.COSTS)
        self.assertIs(type(priced.deeds), dict)
        self.assertEqual({name: deed.cost for name, deed in priced.deeds.items()}, self.COSTS)
        self.assertEqual(list(priced.deeds), list(ways().deeds))
        self.assertEqual(priced.deeds["ab"].needs, ("a",))
        self.assertEqual(priced.deeds["zz"].adds, ("e", "z"))

    def test_deeds_of_no_other_cost_keep_theirs(self):
        priced = Priced(ways(), {"de": 5})
        self.assertEqual([deed.cost for deed in priced.deeds.values()], [1, 2, 3, 1, 5, 0])

    def test_no_such_deed(self):
        for costs in ({"no": 1}, {**self.COSTS, "no": 0}):
            kept = dict(costs)
            with self.assertRaises(NoSuch):
                Priced(ways(), costs)
            with self.assertRaises(NoSuch):
                costs_with(ways(), ("a",), costs)
            self.assertEqual(costs, kept)

    def test_priced_deed(self):
        deed = PricedDeed(Deed("d", ["n"], ["b"], ["x", "a"], ["n"], 3), 1)
        self.assertEqual((deed.needs, deed.adds, deed.cost), (("n",), ("a", "x"), 1))
        self.assertEqual([type(row) for row in (deed.needs, deed.adds)], [tuple] * 2)

    def test_costs_with(self):
        found = costs_with(ways(), ("a",), self.COSTS)
        self.assertEqual(found, {"a": 0, "b": 0, "c": 7, "d": 0, "e": 4})
        self.assertIs(type(found), dict)
        self.assertEqual(costs_with(both(), ("s",), {name: 1 for name in both().deeds}), {
            "s": 0, "m": 1, "x": 2, "k": 2, "y": 1,
        })

    def test_the_most_of_needs(self):
        problem = Problem([], [plain("a", [], ["a"], []), plain("b", [], ["b"], []), plain("c", ["a", "b"], ["c"], [])], [])
        self.assertEqual(costs_with(problem, (), {"a": 2, "b": 3, "c": 4}), {"a": 2, "b": 3, "c": 7})


class ZoneTest(unittest.TestCase):
    def told(self, problem, state, **other):
        """Return the costs of deeds, with some changed, and the table of facts by them."""
        costs = {deed.name: deed.cost for deed in problem.deeds.values()}
        costs.update(other)
        return costs, costs_with(problem, state, costs)

    def test_goal_zone(self):
        costs, table = self.told(ways(), ("a",))
        self.assertEqual(set(goal_zone(ways(), costs, table)), {"e"})
        self.assertIs(type(goal_zone(ways(), costs, table)), dict)
        costs, table = self.told(ways(), ("a",), de=0)
        self.assertEqual(set(goal_zone(ways(), costs, table)), {"d", "e"})
        costs, table = self.told(ways(), ("a",), de=0, cd=0)
        self.assertEqual(set(goal_zone(ways(), costs, table)), {"c", "d", "e"})
        costs, table = self.told(both(), ("s",))
        self.assertEqual(set(goal_zone(both(), costs, table)), {"x"})

    def test_the_first_dearest_need(self):
        deeds = [plain("a", [], ["a"], [], 2), plain("b", [], ["b"], [], 3), plain("c", [], ["c"], [], 3),
                 plain("g", ["a", "b", "c"], ["g"], [], 0)]
        problem = Problem([], deeds, ["g"])
        costs, table = self.told(problem, ())
        self.assertEqual(set(goal_zone(problem, costs, table)), {"g", "b"})
        self.assertEqual(one_cut(problem, (), costs, table), ("b",))

    def test_a_deed_whose_needs_can_not_be_come_to_adds_nothing_to_the_zone(self):
        problem = Problem([], [plain("g", [], ["g"], [], 1), plain("no", ["z"], ["g"], [], 0)], ["g"])
        costs, table = self.told(problem, ())
        self.assertEqual(set(goal_zone(problem, costs, table)), {"g"})

    def test_a_deed_that_needs_nothing_adds_nothing_to_the_zone(self):
        problem = Problem([], [plain("g", [], ["g"], [], 0)], ["g"])
        self.assertEqual(set(goal_zone(problem, {"g": 0}, {"g": 1})), {"g"})

    def test_one_cut(self):
        costs, table = self.told(ways(), ("a",))
        self.assertEqual(one_cut(ways(), ("a",), costs, table), ("de",))
        costs, table = self.told(ways(), ("a",), de=0)
        self.assertEqual(one_cut(ways(), ("a",), costs, table), ("bd", "cd"))
        costs, table = self.told(ways(), ("a",), de=0, cd=0)
        self.assertEqual(one_cut(ways(), ["a"], costs, table), ("ac", "bd"))
        self.assertIs(type(one_cut(ways(), ("a",), costs, table)), tuple)

    def test_a_cut_is_done_without_the_zones_facts(self):
        # late adds a fact of the zone too, but can't be done without another of them.
        deeds = [plain("one", [], ["x"], [], 2), plain("late", ["x"], ["g"], [], 0), plain("later", ["g"], ["x"], [], 1)]
        problem = Problem([], deeds, ["g"])
        costs, table = self.told(problem, ())
        self.assertEqual(one_cut(problem, (), costs, table), ("one",))

    def test_a_fact_of_the_zone_does_not_count_where_the_state_has_it(self):
        problem = Problem(["x"], [plain("xg", ["x"], ["g"], [], 0), plain("g", [], ["g"], [], 1)], ["g"])
        self.assertEqual(one_cut(problem, ("x",), {"xg": 0, "g": 1}, {"x": 1, "g": 1}), ("g",))

    def test_deeds_of_no_other_cost_keep_theirs(self):
        problem = walk([("ab", "a", "b", 3), ("bc", "b", "c", 0)], "a", "c")
        self.assertEqual(set(goal_zone(problem, {}, {"a": 0, "b": 3, "c": 3})), {"b", "c"})
        self.assertEqual(one_cut(problem, ("a",), {"ab": 3}, {"a": 0, "b": 3, "c": 3}), ("ab",))

    def test_a_deed_of_the_cut_may_lead_to_another_one(self):
        deeds = [plain("one", [], ["g", "x"], [], 2), plain("two", ["x"], ["g"], [], 1)]
        problem = Problem([], deeds, ["g"])
        costs, table = self.told(problem, ())
        self.assertEqual(one_cut(problem, (), costs, table), ("one", "two"))

    def test_tables_handed_in_stay_as_they_are(self):
        costs, table = self.told(ways(), ("a",), de=0)
        kept = dict(costs), dict(table)
        one_cut(ways(), ("a",), costs, table)
        goal_zone(ways(), costs, table)
        costs_with(ways(), ("a",), costs)
        self.assertEqual((costs, table), kept)


class CheckCutsTest(unittest.TestCase):
    def test_right_papers(self):
        self.assertEqual(check_cuts(ways(), ("a",), ((("de",), 2), (("ab", "ac"), 1))), 3)
        self.assertEqual(check_cuts(ways(), ["a"], [[["de"], 1], [["de"], 1], [["bd", "cd"], 0]]), 2)
        self.assertEqual(check_cuts(ways(), ("a",), ()), 0)
        self.assertEqual(check_cuts(ways(), ("e",), ()), 0)
        self.assertEqual(check_cuts(ways(), ("a",), ((("de", "zz"), 0),)), 0)

    def test_a_lot_that_does_not_cut(self):
        for lots in (((("ab",), 1),), (((), 0),), ((("de",), 2), (("bd",), 1)), ((("ac", "bd", "zz"), 0), (("ac", "ab"), 0), ((), 0))):
            with self.assertRaises(BadPaper):
                check_cuts(ways(), ("a",), lots)
        with self.assertRaises(BadPaper):
            check_cuts(ways(), ("e",), ((("de",), 0),))

    def test_a_cost_below_nought(self):
        for cost in (-1, -5):
            with self.assertRaises(BadPaper):
                check_cuts(ways(), ("a",), ((("de",), cost),))

    def test_a_deed_that_gives_too_much(self):
        for lots in (((("de",), 3),), ((("de",), 1), (("de",), 2)), ((("ab", "ac"), 2),), ((("ab", "ac"), 1), (("ab", "cd"), 1)),
                     ((("de", "zz"), 1),)):
            with self.assertRaises(BadPaper):
                check_cuts(ways(), ("a",), lots)

    def test_no_such_name(self):
        for lots in (((("no",), 0),), ((("de", "no"), 1),), ((("de",), 1), (("no",), 9))):
            with self.assertRaises(NoSuch):
                check_cuts(ways(), ("a",), lots)

    def test_nothing_is_changed(self):
        problem, lots = ways(), [[["de"], 9]]
        shown = problem.shown()
        with self.assertRaises(BadPaper):
            check_cuts(problem, ("a",), lots)
        self.assertEqual(lots, [[["de"], 9]])
        self.assertEqual(problem.shown(), shown)


class CountMarksTest(unittest.TestCase):
    def test_count_marks(self):
        self.assertEqual(count_marks(ways(), ("a",)), 2)
        self.assertEqual(count_marks(ways(), ["d", "q"]), 1)
        self.assertEqual(count_marks(ways(), ("e",)), 0)
        self.assertEqual(count_marks(both(), ("s",)), 3)
        self.assertIsNone(count_marks(ways(), ()))


if __name__ == "__main__":
    unittest.main()
