"""Tables: heights of cut down problems, alone and put together, and what is refused."""

import unittest

from planwright.deeds import Deed, plain
from planwright.errors import BadDeed, BadFact, BadPaper, BadSize
from planwright.problems import Problem
from planwright.searches import all_costs
from planwright.tables import (
    Table, are_apart, check_never_above, cut_down, greatest, is_even, shared_out, sharpest, summed, tables_of, touches,
    within,
)
from samples import edges, lamp, meets, rand_problem, true_costs, walk, wheels

SEEDS = range(80)
LOTS = (("f0", "f1"), ("f2", "f3"), ("f4",))


def lights():
    """Return a problem of two lights, a and b, that are lit alone, or both at once at a greater cost."""
    return Problem(["off-a", "off-b"], [
        plain("lit-a", ["off-a"], ["on-a"], ["off-a"], 2),
        plain("lit-b", ["off-b"], ["on-b"], ["off-b"], 3),
        plain("both", ["off-a", "off-b"], ["on-a", "on-b"], ["off-a", "off-b"], 4),
        plain("wait", ["off-a"], [], [], 1),
    ], ["on-a", "on-b"])


A, B = ("off-a", "on-a"), ("off-b", "on-b")
START = ("off-a", "off-b")


class CutDownTest(unittest.TestCase):
    def test_some_facts_alone(self):
        problem = Problem(["a", "b"], [Deed("d", ["a", "b"], ["c", "e"], ["c", "g"], ["a", "e"], 7)], ["g", "c"], ["b", "e"])
        self.assertEqual(cut_down(problem, ["e", "a", "c"]).shown(), (
            ("a",), (("d", ("a",), ("c", "e"), ("c",), ("a", "e"), 7),), ("c",), ("e",),
        ))
        self.assertEqual(cut_down(problem, ("b", "g")).shown(), (("b",), (("d", ("b",), (), ("g",), (), 7),), ("g",), ("b",)))
        self.assertEqual(cut_down(problem, ()).shown(), ((), (("d", (), (), (), (), 7),), (), ()))
        self.assertEqual(cut_down(problem, ["nowhere"]).shown(), cut_down(problem, ()).shown())

    def test_deeds_keep_their_order_and_costs(self):
        deeds = cut_down(lights(), A).deeds
        self.assertEqual([(name, deed.name, deed.cost) for name, deed in deeds.items()], [
            ("lit-a", "lit-a", 2), ("lit-b", "lit-b", 3), ("both", "both", 4), ("wait", "wait", 1),
        ])

    def test_other_costs(self):
        costs = {"lit-a": 0, "lit-b": 5, "both": 1, "wait": 9}
        self.assertEqual([deed.cost for deed in cut_down(lights(), A, costs).deeds.values()], [0, 5, 1, 9])
        self.assertEqual([deed.cost for deed in cut_down(lights(), A, {"both": 0}).deeds.values()], [2, 3, 0, 1])
        self.assertEqual([deed.cost for deed in cut_down(lights(), A, costs=None).deeds.values()], [2, 3, 4, 1])

    def test_words_that_are_no_facts(self):
        for kept in (["A"], ["off-a", ""], ("off a",)):
            with self.assertRaises(BadFact):
                cut_down(lights(), kept)
            with self.assertRaises(BadFact):
                Table(lights(), kept)
            with self.assertRaises(BadFact):
                tables_of(lights(), [A, kept], False)

    def test_costs_below_nought(self):
        with self.assertRaises(BadDeed):
            cut_down(lights(), A, {"both": -1})
        with self.assertRaises(BadDeed):
            Table(lights(), A, {"wait": -1})

    def test_nothing_is_changed(self):
        problem, kept, costs = lights(), list(A), {"both": -1}
        shown = problem.shown()
        with self.assertRaises(BadDeed):
            cut_down(problem, kept, costs)
        self.assertEqual((problem.shown(), kept, costs), (shown, list(A), {"both": -1}))

    def test_within(self):
        self.assertEqual(within(("c", "a", "b"), ["b", "c"]), ("c", "b"))
        self.assertEqual(within(["a"], ()), ())
        self.assertEqual(within([], ("a",)), ())
        self.assertIs(type(within(["a"], ["a"])), tuple)


class TableTest(unittest.TestCase):
    def test_fields(self):
        table = Table(lights(), ["on-a", "off-a", "on-a"])
        self.assertEqual(table.kept, A)
        self.assertEqual(table.costs, {("off-a",): 2, ("on-a",): 0})
        self.assertEqual([type(table.kept), type(table.costs)], [tuple, dict])

    def test_other_costs(self):
        table = Table(lights(), A, {"lit-a": 9})
        self.assertEqual(table.costs, {("off-a",): 4, ("on-a",): 0})
        self.assertEqual(Table(lights(), A, {"lit-a": 9, "both": 9}).height(START), 9)

    def test_height(self):
        table = Table(lights(), A)
        self.assertEqual(table.height(START), 2)
        self.assertEqual(table.height(["off-b", "on-a"]), 0)
        self.assertEqual(Table(lights(), ()).height(START), 0)
        self.assertEqual(Table(lights(), A + B).height(START), 4)

    def test_a_height_of_none(self):
        table = Table(lamp(), ["broken", "lit"])
        self.assertEqual(table.costs[("lit",)], 0)
        self.assertIsNone(table.height(("broken", "in")))

    def test_a_state_that_was_not_come_to(self):
        for state in ((), ("off-b",), ("off-a", "on-a")):
            with self.assertRaises(BadSize):
                Table(lights(), A).height(state)

    def test_most(self):
        problem = walk([("ab", "a", "b", 1), ("bc", "b", "c", 1)], "a", "c")
        self.assertEqual(Table(problem, "abc", None, 3).costs, {("a",): 2, ("b",): 1, ("c",): 0})
        with self.assertRaises(BadSize):
            Table(problem, "abc", most=2)
        self.assertEqual(len(Table(wheels((20, 25)), wheels((20, 25)).all_facts()).costs), 500)
        with self.assertRaises(BadSize):
            Table(wheels((3, 167)), wheels((3, 167)).all_facts())
        with self.assertRaises(BadSize):
            tables_of(wheels((3, 167)), [wheels((3, 167)).all_facts()], False)

    def test_heights_are_never_above_and_even(self):
        for seed in SEEDS:
            problem = rand_problem(seed)
            costs = true_costs(problem)
            for lot in LOTS:
                table = Table(problem, lot)
                self.assertEqual(table.costs, all_costs(cut_down(problem, lot)), seed)
                self.assertEqual(check_never_above(problem, table.height, costs), len(costs), seed)
                self.assertTrue(is_even(problem, table.height, list(costs)), seed)


class TouchesTest(unittest.TestCase):
    def test_touches(self):
        deed = Deed("d", ["n"], ["b"], ["a"], ["x"])
        for kept, touched in ((("a",), True), (["x", "q"], True), (("n",), False), (["b"], False), ((), False), (("a", "x"), True)):
            self.assertIs(touches(deed, kept), touched, kept)

    def test_are_apart(self):
        self.assertIs(are_apart(lights(), [A, B]), False)
        apart = Problem(START, list(lights().deeds.values())[:2], ["on-a"])
        self.assertIs(are_apart(apart, [A, B]), True)
        self.assertIs(are_apart(apart, (A, B, ("off-a",))), False)
        self.assertIs(are_apart(apart, [A, A]), False)
        self.assertIs(are_apart(lights(), []), True)
        self.assertIs(are_apart(lights(), [A]), True)
        self.assertIs(are_apart(lights(), [A, ("nowhere",)]), True)
        self.assertIs(are_apart(Problem([], [], []), [A, A]), True)


class TogetherTest(unittest.TestCase):
    def tables(self):
        return [Table(lights(), A), Table(lights(), B)]

    def test_summed_and_greatest(self):
        self.assertEqual(summed(self.tables(), START), 5)
        self.assertEqual(greatest(self.tables(), START), 3)
        self.assertEqual(summed(tuple(self.tables()), ["off-b", "on-a"]), 3)
        self.assertEqual(greatest(self.tables(), ("off-a", "on-b")), 2)
        self.assertEqual(greatest(self.tables()[:1], START), 2)

    def test_no_tables(self):
        self.assertEqual(summed([], START), 0)
        self.assertEqual(greatest((), START), 0)

    def test_none_where_one_has_none(self):
        tables = [Table(lamp(), ["in", "lit"]), Table(lamp(), ["broken", "lit"]), Table(lamp(), ["out"])]
        for state in (("broken", "in"), ("broken", "in", "out")):
            self.assertIsNone(summed(tables, state))
            self.assertIsNone(greatest(tables[::-1], state))
        self.assertEqual(summed(tables[:1], ("broken", "in")), 0)

    def test_a_state_that_was_not_come_to(self):
        for row in (self.tables(), self.tables()[::-1]):
            for function in (summed, greatest):
                with self.assertRaises(BadSize):
                    function(row, ("off-a",))
        tables = [Table(lamp(), ["broken", "lit"]), Table(lights(), A)]
        for function in (summed, greatest):
            with self.assertRaises(BadSize):
                function(tables, ("broken",))

    def test_sums_of_lots_apart_are_never_above(self):
        apart = 0
        for seed in range(400):
            problem = rand_problem(seed, deeds=4)
            costs = true_costs(problem)
            tables = tables_of(problem, LOTS, False)
            self.assertEqual(check_never_above(problem, lambda state: greatest(tables, state), costs), len(costs), seed)
            shared = tables_of(problem, LOTS, True)
            self.assertEqual(check_never_above(problem, lambda state: summed(shared, state), costs), len(costs), seed)
            if are_apart(problem, LOTS):
                apart += 1
                check_never_above(problem, lambda state: summed(tables, state), costs)
        self.assertGreater(apart, 2)


class SharedTest(unittest.TestCase):
    def test_the_first_lot_that_is_touched(self):
        found = shared_out(lights(), [A, B])
        self.assertEqual(found, (
            {"lit-a": 2, "lit-b": 0, "both": 4, "wait": 0}, {"lit-a": 0, "lit-b": 3, "both": 0, "wait": 0},
        ))
        self.assertEqual(shared_out(lights(), (B, A, A))[1:], (
            {"lit-a": 2, "lit-b": 0, "both": 0, "wait": 0}, {"lit-a": 0, "lit-b": 0, "both": 0, "wait": 0},
        ))
        self.assertIs(type(found), tuple)
        self.assertEqual([list(table) for table in found], [list(lights().deeds)] * 2)
        self.assertEqual([type(table) for table in found], [dict] * 2)

    def test_no_lots(self):
        self.assertEqual(shared_out(lights(), []), ())
        self.assertEqual(tables_of(lights(), [], True), ())
        self.assertEqual(tables_of(lights(), (), False), ())

    def test_tables_of(self):
        whole = tables_of(lights(), [A, list(B)], False)
        self.assertEqual([(table.kept, table.height(START)) for table in whole], [(A, 2), (B, 3)])
        shared = tables_of(lights(), (A, B), True)
        self.assertEqual([(table.kept, table.height(START)) for table in shared], [(A, 2), (B, 0)])
        self.assertEqual([table.height(START) for table in tables_of(lights(), (B, A), True)], [3, 0])
        self.assertEqual([type(whole), type(shared)], [tuple] * 2)


class EvenTest(unittest.TestCase):
    def by(self, **table):
        """Return a function of heights by the one fact of a state."""
        return lambda state: table[state[0]]

    def setUp(self):
        self.problem = walk([("ab", "a", "b", 2), ("bc", "b", "c", 3), ("ac", "a", "c", 4), ("bd", "b", "d", 1)], "a", "c")
        self.states = [("a",), ("b",), ("c",), ("d",)]

    def even(self, **table):
        return is_even(self.problem, self.by(**table), self.states)

    def test_even_heights(self):
        self.assertIs(self.even(a=4, b=3, c=0, d=2), True)
        self.assertIs(self.even(a=0, b=0, c=0, d=0), True)
        self.assertIs(is_even(self.problem, self.by(), []), True)

    def test_a_goal_that_is_not_at_nought(self):
        for height in (1, -1):
            self.assertIs(self.even(a=0, b=0, c=height, d=0), False)

    def test_too_steep(self):
        self.assertIs(self.even(a=5, b=3, c=0, d=2), False)
        self.assertIs(self.even(a=4, b=1, c=0, d=2), False)
        self.assertIs(self.even(a=4, b=4, c=0, d=3), False)
        self.assertIs(self.even(a=4, b=3, c=0, d=1), False)

    def test_none_ones_are_left_out(self):
        self.assertIs(self.even(a=4, b=3, c=0, d=None), True)
        self.assertIs(self.even(a=None, b=3, c=0, d=2), True)
        self.assertIs(self.even(a=4, b=None, c=0, d=0), True)
        self.assertIs(self.even(a=5, b=None, c=0, d=0), False)
        self.assertIs(self.even(a=9, b=None, c=None, d=0), True)

    def test_the_states_told_alone(self):
        self.states = (["b"], ["d"])
        self.assertIs(is_even(self.problem, {("b",): 3, ("c",): 0, ("d",): 2}.get, self.states), True)
        self.assertIs(self.even(a=99, b=3, c=0, d=2), True)
        self.assertIs(self.even(a=0, b=4, c=0, d=3), False)

    def test_words_that_are_no_facts(self):
        problem = Problem([], [plain("x", [], ["x"], [])], [])
        with self.assertRaises(BadFact):
            is_even(problem, lambda state: 0, [("A",)])

    def test_many_problems(self):
        both = [0, 0]
        for seed in SEEDS:
            problem = rand_problem(seed)
            costs = true_costs(problem)
            self.assertTrue(is_even(problem, costs.get, list(costs)), seed)
            for state in costs:
                for change in (-1, 1) if costs[state] is not None else ():
                    table = {**costs, state: costs[state] + change}
                    even = not meets(problem, state) and all(
                        table[after] is None or deed.cost + table[after] >= table[one]
                        for one, rows in edges(problem).items() if table[one] is not None for deed, after in rows
                    )
                    both[even] += 1
                    self.assertIs(is_even(problem, table.get, list(costs)), even, seed)
        self.assertGreater(min(both), 0)


class NeverAboveTest(unittest.TestCase):
    COSTS = {("a",): 3, ("b",): 0, ("c",): None}

    def check(self, costs=None, **table):
        return check_never_above(lights(), lambda state: table[state[0]], self.COSTS if costs is None else costs)

    def test_never_above(self):
        self.assertEqual(self.check(a=3, b=0, c=None), 3)
        self.assertEqual(self.check(a=-1, b=-1, c=99), 3)
        self.assertEqual(self.check(costs={}), 0)

    def test_too_great(self):
        for table in ({"a": 4, "b": 0, "c": 0}, {"a": None, "b": 0, "c": 0}, {"a": 0, "b": 1, "c": 0}, {"a": 0, "b": None, "c": 0}):
            with self.assertRaises(BadPaper):
                self.check(**table)

    def test_nothing_is_changed(self):
        costs = {("a",): 0}
        with self.assertRaises(BadPaper):
            self.check(costs=costs, a=1)
        self.assertEqual(costs, {("a",): 0})


class SharpestTest(unittest.TestCase):
    def place(self, *heights):
        return sharpest(lights(), [lambda problem, state, height=height: height for height in heights], START)

    def test_the_first_that_is_greatest(self):
        self.assertEqual(self.place(1, 3, 3, 2), 1)
        self.assertEqual(self.place(0, 0), 0)
        self.assertEqual(self.place(5), 0)
        self.assertEqual(self.place(-3, -2, -1, -1), 2)
        self.assertEqual(self.place(4, 2, 3), 0)

    def test_none_is_greatest_of_all(self):
        self.assertEqual(self.place(9, None, 99, None), 1)
        self.assertEqual(self.place(None, 5), 0)
        self.assertEqual(self.place(None, None), 0)
        self.assertEqual(self.place(5, 7, None), 2)

    def test_no_functions(self):
        self.assertIsNone(sharpest(lights(), [], START))
        self.assertIsNone(sharpest(lights(), (), START))

    def test_functions_are_asked_with_the_problem_and_a_state(self):
        problem, asked = lights(), []

        def height(one, state):
            asked.append((one is problem, state))
            return 0

        self.assertEqual(sharpest(problem, (height,), START), 0)
        self.assertEqual(asked, [(True, START)])
        self.assertEqual(sharpest(problem, [height], list(START)), 0)
        self.assertEqual(asked, [(True, START)] * 2)


if __name__ == "__main__":
    unittest.main()
