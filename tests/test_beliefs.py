"""Beliefs: rows of states that may be, blind and looking plans, split deeds, and what is refused."""

import random
import unittest

from planwright.beliefs import (
    blind_plan, check_blind, check_looking, check_states, depth_of_plan, done_in_all, known, looked, looking_plan,
    open_facts, plan_so_deep, run_looking, split_deed,
)
from planwright.deeds import Deed, plain
from planwright.errors import BadDeed, BadFact, BadPlan, BadSize, NoPlan, NoSuch
from planwright.problems import Problem
from samples import behind, chain, kinds, meets, rand_problem, subsets, walk

SEEDS = range(60)
WRONG_FACTS = ("", "A", "a b", "a\n")


def doors():
    """Return a problem of a prize behind the left or the right door; a look tells which."""
    return Problem(["left"], [
        Deed("open-l", [], ["right"], ["won"], [], 2), Deed("open-r", [], ["left"], ["won"], [], 5),
        plain("swap", ["left"], ["right"], ["left"], 1), plain("wait", [], [], [], 0),
    ], ["won"])


def rooms():
    """Return a problem of three rooms in a row: going on from the last one stays there."""
    return Problem(["r0"], [
        Deed("left", [], ["r1", "r2"], ["r0"], []),
        Deed("on0", [], [], ["r2"], ["r0", "r1"]),
        plain("pick", ["r2"], ["prize"], []),
    ], ["prize"])


def rand_states(seed, problem):
    """Return a row of some states, the same for the same seed."""
    rand = random.Random(seed)
    names = problem.all_facts()
    return [rand.sample(names, rand.randint(0, 3)) for _ in range(rand.randint(1, 3))]


def rand_dark(seed):
    """Return one of many problems, the same for the same seed, in which some facts must be known to go on."""
    rand = random.Random(seed)
    deeds = []
    for place in range(6):
        asked = rand.sample(["a", "b", "m"], rand.randint(1, 2))
        needs = [fact for fact in asked if rand.random() < 0.5]
        bars = [fact for fact in asked if fact not in needs]
        drops = rand.sample(["a", "b", "m"], rand.randint(0, 1))
        deeds.append(Deed("d%d" % place, needs, bars, [rand.choice(["g", "g", "m", "a"])], drops, rand.randint(0, 4)))
    return Problem([], deeds, ["g"])


def rows_behind(problem, row):
    """Return (name, row behind it) of the deeds that can be done in all states of a row."""
    found = []
    for deed in problem.deeds.values():
        states = [behind(state, deed) for state in row]
        if None not in states:
            found.append((deed.name, tuple(sorted(set(states)))))
    return found


def blind_told(problem, row):
    """Return the first of the plans of the fewest deeds that come to the goal from all states, None for none."""
    left, seen = [(row, ())], {row}
    while left:
        here, plan = left.pop(0)
        if all(meets(problem, state) for state in here):
            return plan
        for name, after in rows_behind(problem, here):
            if after not in seen:
                seen.add(after)
                left.append((after, plan + (name,)))
    return None


def looking_told(problem, row, looks, depth):
    """Return the first looking plan so deep, None for none, worked out without any table."""
    if all(meets(problem, state) for state in row):
        return ()
    if depth == 0:
        return None
    for name, after in rows_behind(problem, row):
        rest = looking_told(problem, after, looks, depth - 1)
        if rest is not None:
            return (name, rest)
    for fact in looks:
        sides = [tuple(state for state in row if (fact in state) is mark) for mark in (True, False)]
        if all(sides):
            rest = [looking_told(problem, side, looks, depth - 1) for side in sides]
            if None not in rest:
                return ("look", fact) + tuple(rest)
    return None


class StatesTest(unittest.TestCase):
    def test_check_states(self):
        self.assertEqual(check_states([["b", "a", "b"], ("a",), [], ["a"]]), ((), ("a",), ("a", "b")))
        self.assertEqual(check_states(((),)), ((),))
        self.assertEqual(kinds(check_states([["a"]])), kinds((("a",),)))
        states = [["b", "a"]]
        check_states(states)
        self.assertEqual(states, [["b", "a"]])

    def test_no_states_and_no_facts_refused(self):
        deed = plain("d", [], [], [])
        for asked in (
            check_states, lambda rows: done_in_all(rows, deed), known, open_facts, lambda rows: blind_plan(doors(), rows),
            lambda rows: check_blind(doors(), rows, ["wait"]), lambda rows: looked(rows, "a"),
            lambda rows: looking_plan(doors(), rows, [], 3),
        ):
            for rows in ([], ()):
                with self.assertRaises(BadPlan):
                    asked(rows)
            for word in WRONG_FACTS:
                with self.assertRaises(BadFact):
                    asked([["a"], ["a", word]])

    def test_done_in_all(self):
        deed = Deed("d", ["a"], ["z"], ["b"], ["a"])
        self.assertEqual(done_in_all([["c", "a"], ("a",), ("a", "b")], deed), (("b",), ("b", "c")))
        self.assertEqual(kinds(done_in_all([["a"]], deed)), kinds((("b",),)))
        for rows in ([["a"], ["b"]], [["a", "z"], ["a"]], [[]]):
            kept = [list(row) for row in rows]
            with self.assertRaises(BadDeed):
                done_in_all(rows, deed)
            self.assertEqual(rows, kept)

    def test_known_and_open(self):
        rows = [["c", "a", "b"], ("d", "a", "c"), ["a", "c"]]
        self.assertEqual((known(rows), open_facts(rows)), (("a", "c"), ("b", "d")))
        self.assertEqual((known([["b", "a"]]), open_facts([["b", "a"]])), (("a", "b"), ()))
        self.assertEqual((known([["a"], []]), open_facts([["a"], []])), ((), ("a",)))
        self.assertEqual((known([["a"], ["a"]]), open_facts([["a"], ["a"]])), (("a",), ()))
        self.assertEqual([type(known(rows)), type(open_facts(rows))], [tuple, tuple])

    def test_looked(self):
        rows = [["c", "a"], ("b",), ["a"], ["b"]]
        self.assertEqual(looked(rows, "a"), ((("a",), ("a", "c")), (("b",),)))
        self.assertEqual(looked(rows, "z"), ((), (("a",), ("a", "c"), ("b",))))
        self.assertEqual(looked([["a"]], "a"), ((("a",),), ()))
        self.assertEqual(kinds(looked([["a"], []], "a")), kinds(((("a",),), ((),))))


class BlindTest(unittest.TestCase):
    def test_blind_plan(self):
        self.assertEqual(blind_plan(rooms(), [["r0"], ["r1"], ["r2"]]), ("on0", "pick"))
        self.assertEqual(blind_plan(doors(), [["left"]]), ("open-l",))
        self.assertEqual(blind_plan(doors(), [["left"], ["left", "x"]]), ("open-l",))
        self.assertEqual(type(blind_plan(doors(), [["left"]])), tuple)

    def test_states_that_are_goals_already(self):
        self.assertEqual(blind_plan(doors(), [["won"], ["left", "won"]]), ())
        self.assertEqual(blind_plan(doors(), [["won"]], 1), ())
        self.assertEqual(check_blind(doors(), [["won"]], []), 0)

    def test_one_state_and_one_that_stands_twice(self):
        self.assertEqual(blind_plan(rooms(), [["r1"]]), ("on0", "pick"))
        self.assertEqual(blind_plan(rooms(), [["r1"], ["r1"]]), ("on0", "pick"))
        self.assertEqual(check_blind(rooms(), [["r1"], ("r1",)], ["on0", "pick"]), 2)

    def test_no_plan(self):
        for rows in ([["left"], ["right"]], [["left"], ["right"], ["won"]]):
            with self.assertRaises(NoPlan):
                blind_plan(doors(), rows)

    def test_as_many_rows_as_most_and_one_more(self):
        problem = walk([("d%d" % k, "s%d" % k, "s%d" % (k + 1), 1) for k in range(4)], "s0", "s4")
        states = [["s0"], ["s0", "x"]]
        self.assertEqual(blind_plan(problem, states, 5), ("d0", "d1", "d2", "d3"))
        for most in (1, 2, 4):
            with self.assertRaises(BadSize):
                blind_plan(problem, states, most)
        never = Problem(["s0"], list(problem.deeds.values()), ["q"])
        with self.assertRaises(NoPlan):
            blind_plan(never, states, 5)
        with self.assertRaises(BadSize):
            blind_plan(never, states, 4)

    def test_as_many_rows_as_most_where_it_is_not_told(self):
        self.assertEqual(len(blind_plan(chain(500), [["s0"]])), 499)
        with self.assertRaises(BadSize):
            blind_plan(chain(501), [["s0"]])

    def test_deeds_as_told(self):
        problem = Problem([], [plain("b", [], ["m"], []), plain("a", [], ["m", "n"], []), plain("c", ["m"], ["g"], [])], ["g"])
        self.assertEqual(blind_plan(problem, [[]]), ("b", "c"))

    def test_check_blind(self):
        self.assertEqual(check_blind(rooms(), [["r0"], ["r2"]], ["on0", "pick"]), 2)
        self.assertEqual(check_blind(doors(), [["left"]], ("swap", "open-r", "wait")), 6)
        for states, plan in (([["left"], ["won"]], []), ([["left"], ["left", "x"]], ["wait"]), ([["left"]], ("swap",))):
            with self.assertRaises(BadPlan):
                check_blind(doors(), states, plan)
        with self.assertRaises(BadDeed):
            check_blind(doors(), [["left"], ["right"]], ["open-l"])
        with self.assertRaises(NoSuch):
            check_blind(doors(), [["left"]], ["open-l", "no"])
        # The goal bars a fact that one of the states has.
        problem = Problem([], [plain("d", [], ["g"], [])], ["g"], ["b"])
        with self.assertRaises(BadPlan):
            check_blind(problem, [[], ["b"]], ["d"])

    def test_many(self):
        found = none = 0
        for seed in SEEDS:
            problem = rand_problem(seed)
            rows = rand_states(seed, problem)
            told = blind_told(problem, tuple(sorted({tuple(sorted(set(row))) for row in rows})))
            if told is None:
                none += 1
                with self.assertRaises(NoPlan):
                    blind_plan(problem, rows)
            else:
                found += len(told) > 0
                self.assertEqual(blind_plan(problem, rows), told, seed)
                self.assertEqual(check_blind(problem, rows, told), sum(problem.deeds[name].cost for name in told))
        self.assertTrue(found > 10 and none > 10, (found, none))


class LookingTest(unittest.TestCase):
    def test_looking_plan(self):
        plan = looking_plan(doors(), [["right"], ["left"]], ["left"], 3)
        self.assertEqual(plan, ("look", "left", ("open-l", ()), ("open-r", ())))
        self.assertEqual(kinds(plan), kinds(("look", "left", ("open-l", ()), ("open-r", ()))))
        self.assertEqual(looking_plan(doors(), [["left"]], ["left"], 3), ("open-l", ()))
        self.assertIsNone(looking_plan(doors(), [["left"], ["right"]], [], 4))
        self.assertIsNone(looking_plan(doors(), [["left"], ["right"]], ["won", "q"], 4))

    def test_depths(self):
        states = [["left"], ["right"]]
        for depth in (0, 1):
            self.assertIsNone(looking_plan(doors(), states, ["left"], depth))
        for depth in (2, 3, 9):
            self.assertEqual(depth_of_plan(looking_plan(doors(), states, ["left"], depth)), 2)
        self.assertEqual(looking_plan(doors(), [["won"]], ["left"], 0), ())
        self.assertIsNone(looking_plan(doors(), [["won"], []], ["left"], 0))
        for depth in (-1, -7):
            with self.assertRaises(BadSize):
                looking_plan(doors(), states, ["left"], depth)

    def test_deeds_come_ahead_of_looks_and_both_as_told(self):
        problem = Problem([], [plain("b", [], ["g"], []), plain("a", [], ["g"], [])], ["g"])
        self.assertEqual(looking_plan(problem, [[], ["x"]], ["x"], 1), ("b", ()))
        problem = Problem([], [plain("p", ["x", "y"], ["g"], []), Deed("q", [], ["x", "y"], ["g"], [])], ["g"])
        states = [["x", "y"], []]
        self.assertEqual(looking_plan(problem, states, ["y", "x"], 2), ("look", "y", ("p", ()), ("q", ())))
        self.assertEqual(looking_plan(problem, states, ("x", "y"), 2), ("look", "x", ("p", ()), ("q", ())))

    def test_no_look_at_what_is_known(self):
        states = [["left", "x"], ["right", "x"]]
        self.assertEqual(
            looking_plan(doors(), states, ["x", "q", "left"], 5), ("look", "left", ("open-l", ()), ("open-r", ())),
        )
        self.assertIsNone(plan_so_deep(doors(), states, ["x", "q"], 4))

    def test_plan_so_deep(self):
        self.assertEqual(plan_so_deep(doors(), [["left"]], [], 3), ("open-l", ()))
        # Nothing asks for the least depth here: the deed that is told first comes first.
        problem = Problem([], [plain("a", [], ["x"], []), plain("b", [], ["g"], [])], ["g"])
        self.assertEqual(plan_so_deep(problem, [[]], [], 2), ("a", ("b", ())))
        self.assertEqual(looking_plan(problem, [[]], [], 2), ("b", ()))
        self.assertIsNone(plan_so_deep(problem, [[]], [], 0))
        self.assertEqual(plan_so_deep(problem, [["g"], ["g", "x"]], [], 0), ())

    def test_check_looking(self):
        plan = ("look", "left", ("open-l", ()), ("open-r", ()))
        self.assertEqual(check_looking(doors(), [["left"], ["right"]], plan), 5)
        self.assertEqual(check_looking(doors(), [["right"]], ["look", "left", ["no", []], ["open-r", []]]), 5)
        self.assertEqual(check_looking(doors(), [["left"]], ("swap", plan)), 6)
        self.assertEqual(check_looking(doors(), [["won"]], ()), 0)
        for states, plan in (
            ([["left"]], ()), ([["won"], []], ()), ([["left"]], ("wait", ())), ([["left"]], ("look", "left", ("wait", ()), ())),
            ([["left"], ["right"]], ("look", "left", ("open-l", ()), ())), ([["right"]], ("look", "left", (), ())),
            ([["left"], ["won"]], ("look", "q", (), ())),
        ):
            with self.assertRaises(BadPlan):
                check_looking(doors(), states, plan)
        with self.assertRaises(BadPlan):
            check_looking(doors(), [], ("wait", ()))
        with self.assertRaises(BadPlan):
            check_looking(doors(), [], ("look", "left", (), ()))
        for plan in (("open-l", ()), ("look", "won", (), ("open-r", ()))):
            with self.assertRaises(BadDeed):
                check_looking(doors(), [["left"], ["right"]], plan)
        for plan in (("no", ()), ("wait", ("no", ())), ("look", "left", ("no", ()), ("open-r", ()))):
            with self.assertRaises(NoSuch):
                check_looking(doors(), [["left"], ["right"]], plan)
        for word in WRONG_FACTS:
            with self.assertRaises(BadFact):
                check_looking(doors(), [["left", word]], ("look", "left", ("open-l", ()), ()))

    def test_a_look_at_a_fact_that_is_known(self):
        plan = ("look", "left", ("open-l", ()), ())
        self.assertEqual(check_looking(doors(), [["left"]], plan), 2)
        self.assertEqual(run_looking(doors(), ["left"], plan), ("open-l",))
        self.assertEqual(check_looking(doors(), [["right"]], ("look", "left", (), ("open-r", ()))), 5)

    def test_a_deed_called_look(self):
        problem = Problem([], [plain("look", [], ["g"], [], 3)], ["g"])
        plan = looking_plan(problem, [[], ["x"]], ["x"], 2)
        self.assertEqual(plan, ("look", ()))
        self.assertEqual(check_looking(problem, [[]], plan), 3)
        self.assertEqual(run_looking(problem, [], ("look", "x", (), ("look", ()))), ("look",))
        self.assertEqual(depth_of_plan(("look", ("look", "x", (), ("look", ())))), 3)

    def test_run_looking(self):
        plan = ("wait", ("look", "left", ("swap", ("look", "left", (), ("open-r", ()))), ("open-r", ())))
        self.assertEqual(run_looking(doors(), ("left",), plan), ("wait", "swap", "open-r"))
        self.assertEqual(run_looking(doors(), ["right"], plan), ("wait", "open-r"))
        self.assertEqual(run_looking(doors(), ["right"], ()), ())
        self.assertEqual(type(run_looking(doors(), ["right"], plan)), tuple)
        self.assertEqual(run_looking(doors(), ["right"], ["wait", ["wait", []]]), ("wait", "wait"))
        with self.assertRaises(BadDeed):
            run_looking(doors(), ["right"], ("open-l", ()))
        with self.assertRaises(NoSuch):
            run_looking(doors(), ["right"], ("wait", ("no", ())))
        for word in WRONG_FACTS:
            with self.assertRaises(BadFact):
                run_looking(doors(), ["right", word], ())

    def test_depth_of_plan(self):
        for plan, told in (
            ((), 0), (("a", ()), 1), (("a", ("b", ())), 2), (("look", "f", (), ()), 1),
            (("look", "fa", (), ()), 1), (("look", "left", ("a", ("b", ())), ()), 3), (("a", ("look", "f", (), ("a", ()))), 3), (["a", []], 1),
        ):
            self.assertEqual(depth_of_plan(plan), told)

    def test_many(self):
        looks = found = 0
        for seed in range(150):
            problem = rand_problem(seed, 5, 4) if seed % 3 == 0 else rand_dark(seed)
            rows = rand_states(seed, problem)
            row = tuple(sorted({tuple(sorted(set(row))) for row in rows}))
            names = problem.all_facts()[:3][::-1]
            told = None
            for depth in range(4):
                so_deep = looking_told(problem, row, names, depth)
                self.assertEqual(plan_so_deep(problem, rows, names, depth), so_deep, seed)
                if told is None:
                    told = so_deep
                self.assertEqual(looking_plan(problem, rows, names, depth), told, seed)
                if so_deep is not None:
                    found += 1
                    looks += len(so_deep) == 4
                    self.check_plan(problem, row, so_deep, depth)
        self.assertTrue(looks > 5 and found > 50, (looks, found))

    def check_plan(self, problem, row, plan, depth):
        """Check that a plan comes to the goal from every state of a row, and what it costs at most."""
        self.assertLessEqual(depth_of_plan(plan), depth)
        costs = []
        for state in row:
            here = state
            for name in run_looking(problem, state, plan):
                here = behind(here, problem.deeds[name])
            self.assertTrue(meets(problem, here))
            costs.append(sum(problem.deeds[name].cost for name in run_looking(problem, state, plan)))
        self.assertEqual(check_looking(problem, row, plan), max(costs))

    def test_deep_plans_without_an_end(self):
        problem = walk([("ab", "a", "b", 1), ("ba", "b", "a", 1)], "a", "q")
        self.assertIsNone(looking_plan(problem, [["a"], ["a", "x"]], ["x"], 60))


class SplitTest(unittest.TestCase):
    def test_split_deed(self):
        deed = Deed("go", ["a"], ["b"], ["c"], ["a"], 4)
        found = split_deed(deed, "f", ["d"], ["e"])
        self.assertEqual(type(found), tuple)
        self.assertEqual([one.shown() for one in found], [
            ("go-with", ("a", "f"), ("b",), ("c", "d"), ("a", "e"), 4), ("go-without", ("a",), ("b", "f"), ("c",), ("a",), 4),
        ])
        self.assertEqual(deed.shown(), ("go", ("a",), ("b",), ("c",), ("a",), 4))
        self.assertEqual([one.name for one in split_deed(plain("go(x)", [], [], []), "f", (), ())], ["go(x)-with", "go(x)-without"])

    def test_what_is_added_and_dropped_is_added(self):
        with_fact, without = split_deed(Deed("d", [], [], ["a"], ["b"]), "f", ["b"], ["a", "f"])
        self.assertEqual(with_fact.shown(), ("d-with", ("f",), (), ("a", "b"), ("f",), 1))
        self.assertEqual(without.shown(), ("d-without", (), ("f",), ("a",), ("b",), 1))

    def test_just_one_of_them_can_be_done(self):
        deed = Deed("d", ["a"], ["b"], ["c"], ["a"])
        there, gone = split_deed(deed, "f", ["x"], ["c"])
        for state in subsets(("a", "b", "f")):
            self.assertIs(there.fits(state) or gone.fits(state), deed.fits(state))
            self.assertFalse(there.fits(state) and gone.fits(state))

    def test_refused(self):
        deed = Deed("d", ["a"], ["b"], ["c"], ["a"])
        for fact in ("a", "b"):
            with self.assertRaises(BadDeed):
                split_deed(deed, fact, [], [])
        for word in WRONG_FACTS:
            for told in ((word, [], []), ("f", [word], []), ("f", ["x"], [word])):
                with self.assertRaises(BadFact):
                    split_deed(deed, *told)
        self.assertEqual(split_deed(deed, "c", [], [])[0].needs, ("a", "c"))


if __name__ == "__main__":
    unittest.main()
