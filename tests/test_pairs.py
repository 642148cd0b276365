"""Pairs: what pairs of facts cost, which are apart, papers of them, lots of which just one holds, and what is refused."""

import unittest
from itertools import combinations

from planwright.deeds import Deed, plain
from planwright.errors import BadFact, BadPaper
from planwright.pairs import (
    after_pairs, apart, check_apart, greatest_lots, grow, height_by_pairs, joins, makes, never, one_of_each, pair_costs,
    row_cost, stays_one, stopped, values_of,
)
from planwright.problems import Problem
from planwright.relaxed import height_by_most
from samples import behind, edges, lamp, rand_problem, subsets, true_costs, walk, wheels

SEEDS = range(80)


def room():
    """Return a problem of a lamp that is on or off, and a place that is in or out; glass can't be come to."""
    return Problem(["off", "out"], [
        plain("go", ["out"], ["in"], ["out"], 2),
        plain("back", ["in"], ["out"], ["in"], 1),
        plain("light", ["in", "off"], ["on"], ["off"], 3),
        plain("break", ["glass"], ["off", "on"], [], 0),
    ], ["on", "out"])


def costs_told(problem, state):
    """Return what pairs cost, worked out from each pair back: what must be there ahead of a deed that gives some of it."""
    facts = sorted(set(problem.all_facts()) | set(state))
    pairs = [(one, other) for one in facts for other in facts if one <= other]
    costs = {pair: 0 for pair in pairs if set(pair) <= set(state)}
    for _ in range(40):
        found = dict(costs)
        for pair in pairs:
            for deed in problem.deeds.values():
                rest = set(pair) - set(deed.adds)
                if len(rest) == len(set(pair)) or rest & (set(deed.drops) | set(deed.bars)):
                    continue
                wanted = sorted(set(deed.needs) | rest)
                row = [(one, other) for one in wanted for other in wanted if one <= other]
                if all(one in costs for one in row):
                    found[pair] = min(found.get(pair, 10 ** 6), deed.cost + max([costs[one] for one in row] + [0]))
        costs = found
    return costs


class PairCostsTest(unittest.TestCase):
    def test_pair_costs(self):
        found = pair_costs(room(), ("off", "out"))
        self.assertEqual(found, {
            ("off", "off"): 0, ("out", "out"): 0, ("off", "out"): 0, ("in", "in"): 2, ("in", "off"): 2, ("on", "on"): 5,
            ("in", "on"): 5, ("on", "out"): 6,
        })
        self.assertIs(type(found), dict)

    def test_from_a_state(self):
        self.assertEqual(pair_costs(room(), ["on"]), {("on", "on"): 0})
        self.assertEqual(pair_costs(room(), ()), {})
        self.assertEqual(pair_costs(Problem([], [plain("a", [], ["b", "a"], [], 2)], []), ()), {
            ("a", "a"): 2, ("a", "b"): 2, ("b", "b"): 2,
        })

    def test_a_barred_fact_is_not_taken_along(self):
        deeds = [Deed("d", [], ["b"], ["x"], [], 1), plain("b", [], ["b"], [], 1)]
        self.assertEqual(pair_costs(Problem(["b"], deeds, []), ("b",)), {("b", "b"): 0, ("x", "x"): 1, ("b", "x"): 2})
        self.assertEqual(pair_costs(Problem(["b"], deeds[:1], []), ("b",)), {("b", "b"): 0, ("x", "x"): 1})

    def test_a_cheaper_way_found_later(self):
        deeds = [plain("dear", [], ["x"], [], 9), plain("low", ["z"], ["x"], [], 1), plain("z", [], ["z"], [], 1)]
        self.assertEqual(pair_costs(Problem([], deeds, []), ()), {("x", "x"): 2, ("z", "z"): 1, ("x", "z"): 2})

    def test_words_that_are_no_facts(self):
        with self.assertRaises(BadFact):
            pair_costs(room(), ("in", "off", "A"))
        with self.assertRaises(BadFact):
            height_by_pairs(room(), ("in", "off", "A"))

    def test_many_problems(self):
        for seed in SEEDS:
            problem = rand_problem(seed)
            for state in list(edges(problem))[:5]:
                self.assertEqual(pair_costs(problem, state), costs_told(problem, state), seed)

    def test_row_cost(self):
        table = {("a", "a"): 1, ("a", "b"): 4, ("b", "b"): 3, ("c", "c"): 0, ("a", "c"): 2}
        self.assertEqual(row_cost(table, ("a", "b")), 4)
        self.assertEqual(row_cost(table, ["b"]), 3)
        self.assertEqual(row_cost(table, ("c",)), 0)
        self.assertEqual(row_cost(table, ()), 0)
        self.assertEqual(row_cost({}, []), 0)
        for row in (("b", "c"), ("d",), ("a", "d"), ("a", "b", "c")):
            self.assertIsNone(row_cost(table, row))
        self.assertEqual(row_cost(table, ("b", "a")), 4)
        self.assertIsNone(row_cost({("a", "b"): 1, ("b", "b"): 1}, ("a", "b")))

    def test_after_pairs(self):
        table = {("a", "a"): 0, ("b", "b"): 1, ("a", "b"): 3, ("c", "c"): 0, ("a", "c"): 2, ("d", "d"): 1, ("e", "e"): 1,
                 ("a", "e"): 1, ("a", "d"): 0}
        deed = Deed("go", ["a"], ["d"], ["x", "y"], ["e"], 10)
        kept = dict(table)
        found = after_pairs(table, deed, 0)
        self.assertEqual(found, {
            ("x", "x"): 10, ("x", "y"): 10, ("y", "y"): 10, ("a", "x"): 10, ("a", "y"): 10, ("b", "x"): 13, ("b", "y"): 13,
            ("c", "x"): 12, ("c", "y"): 12,
        })
        self.assertIs(type(found), dict)
        self.assertEqual(table, kept)
        # What a deed adds is told by its needs alone, whatever is taken along.
        self.assertEqual(after_pairs({("a", "a"): 0, ("x", "x"): 5, ("a", "x"): 5}, plain("go", ["a"], ["x"], [], 1), 0), {
            ("x", "x"): 1, ("a", "x"): 1,
        })
        self.assertEqual(after_pairs({}, plain("go", [], ["x"], [], 1), 4), {("x", "x"): 5})
        self.assertEqual(after_pairs({("q", "q"): 0}, plain("go", [], [], [], 1), 0), {})

    def test_after_pairs_takes_along_what_goes_with_the_needs(self):
        table = {("a", "a"): 0, ("b", "b"): 0}
        self.assertEqual(after_pairs(table, plain("go", ["a"], ["x"], [], 1), 0), {("x", "x"): 1, ("a", "x"): 1})
        self.assertEqual(after_pairs(table, plain("go", [], ["x"], [], 1), 0), {("x", "x"): 1, ("a", "x"): 1, ("b", "x"): 1})

    def test_words_that_are_no_facts_beside_a_deed(self):
        with self.assertRaises(BadFact):
            after_pairs({("A", "A"): 0}, plain("go", [], ["x"], []), 0)


class HeightTest(unittest.TestCase):
    def test_height_by_pairs(self):
        self.assertEqual(height_by_pairs(room(), ("off", "out")), 6)
        self.assertEqual(height_by_pairs(room(), ["in", "on"]), 1)
        self.assertEqual(height_by_pairs(room(), ("on", "out")), 0)
        self.assertIsNone(height_by_pairs(room(), ("on",)))
        self.assertEqual(height_by_pairs(Problem([], [], []), ()), 0)

    def test_none_where_two_facts_of_the_goal_are_apart(self):
        problem = Problem(["out"], [plain("go", ["out"], ["in"], ["out"])], ["in", "out"])
        self.assertIsNone(height_by_pairs(problem, ("out",)))
        self.assertEqual(height_by_pairs(problem, ("in", "out")), 0)

    def test_many_problems(self):
        sharper = 0
        for seed in SEEDS:
            problem = rand_problem(seed)
            for state, cost in true_costs(problem).items():
                height = height_by_pairs(problem, state)
                most = height_by_most(problem, state)
                if cost is not None:
                    self.assertLessEqual(height, cost, seed)
                    self.assertLessEqual(most, height, seed)
                    sharper += most < height
        self.assertGreater(sharper, 5)


class ApartTest(unittest.TestCase):
    def test_apart_and_never(self):
        self.assertEqual(apart(room()), (("in", "out"), ("off", "on")))
        self.assertEqual(never(room()), ("glass",))
        self.assertEqual(apart(lamp()), (("broken", "lit"), ("broken", "out"), ("in", "out"), ("lit", "out")))
        self.assertEqual(never(lamp()), ("wings",))
        self.assertEqual(apart(Problem([], [], [])), ())
        self.assertEqual(never(Problem([], [], [])), ())
        found = apart(room())
        self.assertEqual([type(row) for row in (found, found[0], never(room()))], [tuple] * 3)

    def test_facts_of_the_goal_are_told_too(self):
        self.assertEqual(never(Problem(["a"], [], ["g"], ["b"])), ("b", "g"))

    def test_they_never_are_together(self):
        for seed in SEEDS:
            problem = rand_problem(seed)
            costs = costs_told(problem, problem.start)
            facts = problem.all_facts()
            there = [fact for fact in facts if (fact, fact) in costs]
            pairs = tuple(pair for pair in combinations(there, 2) if pair not in costs)
            self.assertEqual(apart(problem), pairs, seed)
            self.assertEqual(never(problem), tuple(fact for fact in facts if fact not in there), seed)
            for state in edges(problem):
                self.assertFalse(any(set(pair) <= set(state) for pair in pairs), seed)
                self.assertTrue(set(state) <= set(there), seed)
            self.assertEqual(check_apart(problem, pairs, never(problem)), len(pairs), seed)


class CheckApartTest(unittest.TestCase):
    def test_right_papers(self):
        self.assertEqual(check_apart(room(), apart(room()), never(room())), 2)
        self.assertEqual(check_apart(room(), [["in", "out"]]), 1)
        self.assertEqual(check_apart(room(), (("out", "in"),), ()), 1)
        self.assertEqual(check_apart(room(), [], ["glass"]), 0)
        self.assertEqual(check_apart(room(), []), 0)
        self.assertEqual(check_apart(Problem([], [], []), [("a", "b"), ("c", "d")], none=("e",)), 2)

    def test_a_pair_of_a_fact_with_itself(self):
        self.assertEqual(check_apart(room(), [("glass", "glass"), ("off", "on")]), 2)
        for pair in (("out", "out"), ("in", "in")):
            with self.assertRaises(BadPaper):
                check_apart(room(), [pair])

    def test_a_pair_that_starts(self):
        still = Problem(["a", "b"], [], [])
        for pair in (("a", "b"), ("b", "a"), ("a", "a")):
            with self.assertRaises(BadPaper):
                check_apart(still, [("c", "d"), pair])
        self.assertEqual(check_apart(still, [("a", "c"), ("c", "b")]), 2)

    def test_a_fact_that_starts(self):
        still = Problem(["a", "b"], [], [])
        for none in (("b",), ["c", "a"]):
            with self.assertRaises(BadPaper):
                check_apart(still, [], none)

    def test_a_fact_that_is_added(self):
        for none in (["in"], ["glass", "in"], ["on"]):
            with self.assertRaises(BadPaper):
                check_apart(room(), [], none)
        # The deed that adds it needs one of them, or a pair.
        problem = Problem(["s"], [plain("d", ["p", "q"], ["n"], [])], [])
        self.assertEqual(check_apart(problem, [], ["n", "p"]), 0)
        self.assertEqual(check_apart(problem, [("p", "q")], ["n"]), 1)
        for rows, none in (([], ["n"]), ([("p", "r")], ["n"])):
            with self.assertRaises(BadPaper):
                check_apart(problem, rows, none)

    def test_a_pair_that_is_made(self):
        with self.assertRaises(BadPaper):
            check_apart(room(), [("in", "off")])
        with self.assertRaises(BadPaper):
            check_apart(room(), [("off", "on")])
        self.assertEqual(check_apart(room(), [("off", "on")], ["glass"]), 1)
        with self.assertRaises(BadPaper):
            check_apart(room(), [("in", "out"), ("in", "on")])

    def test_a_deed_is_stopped_by_what_is_ahead_of_the_pair(self):
        problem = Problem(["s"], [plain("x", ["s"], ["x"], []), plain("y", ["s"], ["y"], ["s"])], [])
        # x and y: y comes while x is there, unless s and x are apart, which they aren't.
        with self.assertRaises(BadPaper):
            check_apart(problem, [("x", "y")])
        moved = Problem(["s"], [plain("x", ["s"], ["x"], ["s"]), plain("y", ["s"], ["y"], ["s"])], [])
        with self.assertRaises(BadPaper):
            check_apart(moved, [("x", "y")])
        self.assertEqual(check_apart(moved, [("x", "y"), ("s", "x"), ("y", "s")]), 3)

    def test_nothing_is_changed(self):
        problem, rows, none = room(), [["off", "on"]], ["in"]
        shown = problem.shown()
        with self.assertRaises(BadPaper):
            check_apart(problem, rows, none)
        self.assertEqual((rows, none, problem.shown()), ([["off", "on"]], ["in"], shown))

    def test_words_that_are_no_facts(self):
        problem = Problem([], [plain("x", [], ["x"], [])], [])
        with self.assertRaises(BadFact):
            check_apart(problem, [("A", "x")])

    def test_what_makes_tells(self):
        deed = Deed("d", ["a", "b"], ["c"], ["b", "c", "x"], ["a", "y"])
        for one in ("a", "b", "c", "q", "x", "y"):
            for other in ("a", "b", "c", "q", "x", "y"):
                told = (one in "bcx" or other in "bcx") and one not in "ay" and other not in "ay"
                self.assertIs(makes(deed, (one, other)), told, (one, other))
                self.assertIs(makes(deed, [one, other]), told, (one, other))

    def test_what_a_deed_makes_that_needs_what_it_adds(self):
        self.assertIs(makes(Deed("p", ["a", "b"], [], ["a", "b"], [], 0), ("a", "b")), True)
        self.assertIs(makes(Deed("p", ["a"], [], ["a"], []), ("a", "c")), True)
        self.assertIs(makes(Deed("p", ["a"], [], ["a"], []), ("a", "a")), True)
        self.assertIs(makes(Deed("p", ["a"], ["c"], ["a"], []), ("a", "c")), False)
        self.assertIs(makes(Deed("p", ["a"], [], ["b"], ["a"]), ("a", "b")), False)
        self.assertIs(makes(Deed("p", ["a", "c"], [], ["b"], []), ("a", "c")), False)

    def test_what_makes_tells_of_many_deeds(self):
        for seed in range(12):
            problem = rand_problem(seed)
            facts = problem.all_facts()
            for deed in problem.deeds.values():
                left = [fact for fact in facts if fact in deed.adds or fact not in deed.drops + deed.bars]
                for pair in [(one, other) for one in facts for other in facts]:
                    told = set(pair) <= set(left) and bool(set(pair) & set(deed.adds))
                    self.assertIs(makes(deed, pair), told, (seed, pair))

    def test_pairs_that_are_there_behind_a_deed_alone_are_made(self):
        for seed in range(12):
            problem = rand_problem(seed)
            facts = problem.all_facts()
            for deed in problem.deeds.values():
                for state in subsets(facts):
                    after = behind(state, deed)
                    for pair in [] if after is None else [(one, other) for one in after for other in after]:
                        self.assertTrue(set(pair) <= set(state) or makes(deed, pair), (seed, pair))

    def test_a_paper_is_taken_where_the_pair_stops_what_needs_it(self):
        problem = Problem(["a"], [Deed("p", ["a", "b"], [], ["a", "b"], [], 0)], ["b"])
        self.assertEqual(check_apart(problem, [("a", "b")]), 1)
        self.assertEqual(check_apart(problem, [("a", "b")], ["b"]), 1)
        problem = Problem(["a"], [Deed("p", ["a"], [], ["a"], [])], ["c"])
        self.assertEqual(check_apart(problem, [("a", "c")]), 1)

    def test_stopped(self):
        deed = Deed("d", ["a", "b"], [], ["x"], ["a"])
        for pair, table, none, told in (
            ((), {}, (), False),
            ((), {("a", "b"): True}, (), True),
            ((), {("b", "a"): True}, (), True),
            ((), {("b", "b"): True}, (), True),
            ((), {("a", "x"): True, ("x", "x"): True}, (), False),
            ((), {}, ("b",), True),
            ((), {}, ["q", "x"], False),
            (("x", "q"), {("a", "q"): True}, (), True),
            (("q", "x"), {("q", "x"): True}, (), False),
            (("q", "r"), {("q", "r"): True}, (), True),
            (["q", "x"], {("q", "q"): True}, (), True),
            (("q", "x"), {}, ("q",), True),
            (("x", "x"), {("x", "x"): True}, ("x",), False),
        ):
            self.assertIs(stopped(deed, pair, table, none), told, (pair, table, none))
        with self.assertRaises(BadFact):
            stopped(deed, ("A", "x"), {}, ())
        self.assertIs(stopped(deed, (), {("a", "q"): True}, ()), False)


class OneOfEachTest(unittest.TestCase):
    def test_lots_of_which_just_one_holds(self):
        self.assertEqual(one_of_each(room()), (("in", "out"), ("off", "on")))
        found = one_of_each(wheels((3, 4)))
        self.assertEqual(found, (("w0-0", "w0-1", "w0-2"), ("w1-0", "w1-1", "w1-2", "w1-3")))
        self.assertEqual([type(row) for row in (found, found[0])], [tuple] * 2)
        self.assertEqual(one_of_each(Problem([], [], [])), ())

    def test_a_lot_of_many_facts(self):
        rows = [("d%d" % k, "s%02d" % k, "s%02d" % (k + 1), 1) for k in range(30)]
        self.assertEqual(one_of_each(walk(rows, "s00", "s30")), (tuple("s%02d" % k for k in range(31)),))

    def test_none_of_which_none_starts(self):
        # x and y are apart, but neither is there at the start.
        deeds = [plain("x", ["s"], ["x"], ["s"]), plain("y", ["s"], ["y"], ["s"])]
        self.assertEqual(one_of_each(Problem(["s"], deeds, [])), (("s", "x", "y"),))
        deeds = [Deed("x", [], ["y"], ["x"], ["y"]), Deed("y", [], ["x"], ["y"], ["x"])]
        self.assertEqual(apart(Problem([], deeds, [])), (("x", "y"),))
        self.assertEqual(one_of_each(Problem([], deeds, [])), ())
        self.assertEqual(one_of_each(Problem(["x"], deeds, [])), (("x", "y"),))

    def test_a_lot_that_a_deed_leaves_without_one(self):
        rows = [plain("go", ["out"], ["in"], ["out"]), plain("fall", ["in"], ["down"], ["in"])]
        self.assertEqual(one_of_each(Problem(["out"], rows, [])), (("down", "in", "out"),))
        lost = [rows[0], plain("fall", ["in"], [], ["in"])]
        self.assertEqual(one_of_each(Problem(["out"], lost, [])), ())

    def test_many_problems(self):
        many = 0
        for seed in range(300):
            problem = rand_problem(seed)
            lots = one_of_each(problem)
            many += len(lots)
            pairs = set(apart(problem))
            names = sorted({fact for pair in pairs for fact in pair})
            all_lots = [lot for lot in subsets(names) if all(pair in pairs for pair in combinations(lot, 2))]
            great = [lot for lot in all_lots if not any(set(lot) < set(other) for other in all_lots)]
            good = [lot for lot in great if set(lot) & set(problem.start) and stays_one(problem, lot)]
            self.assertEqual(lots, tuple(sorted(good)), seed)
            for state in edges(problem):
                self.assertEqual([len(set(lot) & set(state)) for lot in lots], [1] * len(lots), seed)
                self.assertTrue(all(value in state for value in values_of(state, lots)), seed)
        self.assertGreater(many, 10)


class LotsTest(unittest.TestCase):
    TABLE = {("a", "b"): True, ("b", "c"): True, ("a", "c"): True, ("c", "d"): True, ("e", "d"): True}

    def test_greatest_lots(self):
        names = ["a", "b", "c", "d", "e", "f"]
        found = greatest_lots(names, self.TABLE)
        self.assertEqual(found, [("a", "b", "c"), ("c", "d"), ("d", "e"), ("f",)])
        self.assertIs(type(found), list)
        self.assertEqual(greatest_lots(tuple(names[1:]), self.TABLE), [("b", "c"), ("c", "d"), ("d", "e"), ("f",)])
        self.assertEqual(greatest_lots(["c", "a"], self.TABLE), [("c", "a")])
        self.assertEqual(greatest_lots(["a", "f"], {}), [("a",), ("f",)])
        self.assertEqual(greatest_lots([], {}), [()])
        self.assertEqual(greatest_lots(names, {**self.TABLE, ("a", "a"): True, ("f", "f"): True}), found)
        both_ways = {**self.TABLE, **{(other, one): True for one, other in self.TABLE}}
        self.assertEqual(greatest_lots(names, both_ways), found)

    def test_many_tables(self):
        for seed in range(200):
            names = ["n%d" % k for k in range(seed % 8)]
            pairs = {pair: True for place, pair in enumerate(combinations(names, 2)) if (seed * 7919 >> place % 13) % 3}
            lots = [lot for lot in subsets(names) if all(pair in pairs for pair in combinations(lot, 2))]
            great = [lot for lot in lots if not any(set(lot) < set(other) for other in lots)]
            self.assertEqual(greatest_lots(names, pairs), sorted(great), seed)

    def test_many_lots_alike_are_found_soon(self):
        names = ["n%02d" % k for k in range(40)]
        table = {pair: True for pair in combinations(names, 2)}
        self.assertEqual(greatest_lots(names, table), [tuple(names)])
        del table[("n00", "n01")]
        self.assertEqual(greatest_lots(names, table), [(names[0],) + tuple(names[2:]), tuple(names[1:])])

    def test_grow(self):
        names = ["a", "b", "c", "d", "e", "f"]
        for lot, left, lots in (
            (("c",), names[3:], [("c", "d")]),
            (["a"], names[1:], [("a", "b", "c")]),
            (("a",), names[2:], []),
            (("f",), [], [("f",)]),
            (("a", "b", "c"), [], [("a", "b", "c")]),
            (("a", "b"), [], []),
            ((), names, [("a", "b", "c"), ("c", "d"), ("d", "e"), ("f",)]),
            ((), names[3:], [("d", "e"), ("f",)]),
        ):
            found = ["kept"]
            kept = list(lot), list(left), list(names)
            self.assertIsNone(grow(lot, left, names, self.TABLE, found))
            self.assertEqual(found, ["kept"] + lots, lot)
            self.assertEqual((list(lot), list(left), names), kept)

    def test_joins(self):
        self.assertIs(joins(("a", "b"), "c", self.TABLE), True)
        self.assertIs(joins(["c"], "b", self.TABLE), True)
        self.assertIs(joins(("a", "b"), "d", self.TABLE), False)
        self.assertIs(joins(("c", "a"), "d", self.TABLE), False)
        self.assertIs(joins(("d",), "e", self.TABLE), True)
        self.assertIs(joins((), "z", self.TABLE), True)

    def test_stays_one(self):
        for deed, told in (
            (Deed("d", ["a"], [], ["b"], ["a"]), True),
            (Deed("d", ["a"], [], ["x"], ["a"]), False),
            (Deed("d", ["a"], [], [], ["b"]), True),
            (Deed("d", ["x"], [], [], ["b"]), False),
            (Deed("d", [], [], ["b"], ["x"]), True),
            (Deed("d", [], ["a"], [], ["b"]), False),
            (Deed("d", ["a", "b"], [], [], ["a"]), True),
            (Deed("d", ["a", "b"], [], [], ["a", "b"]), False),
            (Deed("d", [], [], ["x"], []), True),
        ):
            self.assertIs(stays_one(Problem([], [deed], []), ("a", "b")), told, deed.shown())
            self.assertIs(stays_one(Problem([], [plain("first", [], [], []), deed], []), ["a", "b"]), told)
        self.assertIs(stays_one(Problem([], [], []), ("a",)), True)
        self.assertIs(stays_one(room(), ("off",)), False)

    def test_values_of(self):
        lots = (("in", "out"), ["off", "on"], ("x",))
        self.assertEqual(values_of(("off", "out"), lots), ("out", "off", None))
        self.assertEqual(values_of(["in", "off", "on", "x"], list(lots)), ("in", None, "x"))
        self.assertEqual(values_of((), lots), (None, None, None))
        self.assertEqual(values_of(("in",), ()), ())
        self.assertIs(type(values_of((), [])), tuple)


if __name__ == "__main__":
    unittest.main()
