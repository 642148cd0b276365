"""Problems: what plans come to and cost, the states come to, and what is refused."""

import unittest
from itertools import combinations

from planwright.deeds import Deed, plain
from planwright.errors import BadDeed, BadFact, BadPlan, BadSize, NoSuch
from planwright.problems import (
    Problem, comes, dead_ends, from_state, reached, shorter, useless, way_to, with_goal, without,
)
from samples import chain, lamp, wheels

OUT, IN, LIT, BROKEN = ("out",), ("in",), ("in", "lit"), ("broken", "in")


def bits(count):
    """Return a problem whose deeds put in or take out one fact each."""
    deeds = []
    for k in range(count):
        deeds.append(Deed("in%d" % k, [], ["f%d" % k], ["f%d" % k], []))
        deeds.append(Deed("out%d" % k, ["f%d" % k], [], [], ["f%d" % k]))
    return Problem([], deeds, [])


class ProblemTest(unittest.TestCase):
    def test_fields(self):
        deeds = [plain("b", [], ["x"], []), plain("a", [], ["y"], [])]
        problem = Problem(["s2", "s1", "s2"], deeds, ["g2", "g1"], ["b2", "b1"])
        self.assertEqual(problem.start, ("s1", "s2"))
        self.assertEqual(problem.goal, ("g1", "g2"))
        self.assertEqual(problem.bars, ("b1", "b2"))
        self.assertIs(type(problem.deeds), dict)
        self.assertEqual(list(problem.deeds), ["b", "a"])
        self.assertIs(problem.deeds["b"], deeds[0])
        self.assertIs(problem.deeds["a"], deeds[1])
        self.assertEqual([type(row) for row in (problem.start, problem.goal, problem.bars)], [tuple] * 3)

    def test_bars_are_none_where_they_are_left_out(self):
        self.assertEqual(Problem([], [], []).bars, ())

    def test_fields_are_its_own(self):
        start, deeds, goal, bars = ["s"], [plain("d", [], [], [])], ["g"], ["b"]
        problem = Problem(start, deeds, goal, bars)
        start.append("more")
        goal.append("more")
        bars.append("more")
        deeds.append(plain("more", [], [], []))
        self.assertEqual(problem.shown(), (("s",), (("d", (), (), (), (), 1),), ("g",), ("b",)))

    def test_rows_may_be_tuples(self):
        problem = Problem(("s",), (plain("d", (), (), ()),), ("g",), ("b",))
        self.assertEqual(problem.shown(), (("s",), (("d", (), (), (), (), 1),), ("g",), ("b",)))

    def test_two_deeds_of_a_name_are_refused(self):
        deeds = [plain("d", [], ["x"], []), plain("e", [], [], []), plain("d", [], ["y"], [])]
        with self.assertRaises(BadDeed):
            Problem([], deeds, [])
        with self.assertRaises(BadDeed):
            Problem([], (deeds[0], deeds[0]), [])
        self.assertEqual(len(deeds), 3)

    def test_a_goal_that_is_barred_is_refused(self):
        for goal, bars in ((["a"], ["a"]), (["a", "b"], ["b", "c"]), (("c", "a"), ("a",))):
            with self.assertRaises(BadPlan):
                Problem([], [], goal, bars)

    def test_no_fact_is_refused(self):
        for fact in ("", "A", "a b", "a\n"):
            for args in (([fact], [], []), (["a", fact], [], ["g"]), ([], [], [fact]), ([], [], ["g"], ["b", fact])):
                with self.assertRaises(BadFact):
                    Problem(*args)

    def test_deed(self):
        problem = lamp()
        self.assertEqual(problem.deed("go").shown(), ("go", ("out",), (), ("in",), ("out",), 2))
        self.assertIs(problem.deed("light"), problem.deeds["light"])

    def test_no_such_deed(self):
        for name in ("", "stay", "GO", "lit"):
            with self.assertRaises(NoSuch):
                lamp().deed(name)

    def test_is_goal(self):
        problem = lamp()
        for state, goal in ((LIT, True), (("lit",), True), (IN, False), ((), False), (("broken", "in", "lit"), False)):
            self.assertIs(problem.is_goal(state), goal, state)
            self.assertIs(problem.is_goal(list(state)), goal, state)

    def test_is_goal_asks_all_its_facts(self):
        problem = Problem([], [], ["a", "b"], ["c", "d"])
        for size in range(5):
            for state in combinations("abcd", size):
                self.assertIs(problem.is_goal(state), state == ("a", "b"), state)

    def test_an_empty_goal_is_always_come_to(self):
        problem = Problem(["a"], [], [])
        self.assertIs(problem.is_goal(()), True)
        self.assertIs(problem.is_goal(("a",)), True)
        self.assertEqual(problem.check(()), 0)

    def test_choices_as_told(self):
        problem = lamp()
        for state, names in (
            (OUT, ["go"]), (IN, ["light", "break"]), (BROKEN, ["break"]), ((), []), (("in", "out", "wings"), [
                "go", "light", "break", "fly",
            ]),
        ):
            found = problem.choices(state)
            self.assertIs(type(found), tuple)
            self.assertEqual([deed.name for deed in found], names)
            self.assertTrue(all(deed is problem.deeds[deed.name] for deed in found))
        self.assertEqual(problem.choices(list(IN)), problem.choices(IN))

    def test_choices_as_told_and_not_by_name(self):
        problem = Problem([], [plain(name, [], [], []) for name in ("c", "a", "b")], [])
        self.assertEqual([deed.name for deed in problem.choices(())], ["c", "a", "b"])

    def test_states_of(self):
        problem = lamp()
        self.assertEqual(problem.states_of(["go", "light", "break"]), (OUT, IN, LIT, BROKEN))
        self.assertEqual(problem.states_of(("go",)), (OUT, IN))
        self.assertEqual(problem.states_of(()), (OUT,))
        self.assertEqual(problem.states_of([]), (OUT,))
        self.assertEqual([type(row) for row in problem.states_of(["go"])], [tuple] * 2)

    def test_states_of_refused(self):
        problem = lamp()
        for plan in (["light"], ["go", "go"], ["go", "break", "light"], ["light", "stay"]):
            with self.assertRaises(BadDeed):
                problem.states_of(plan)
        for plan in (["stay"], ["go", "stay"], ["stay", "light"]):
            with self.assertRaises(NoSuch):
                problem.states_of(plan)

    def test_cost_of(self):
        problem = lamp()
        self.assertEqual(problem.cost_of(["go", "light", "break"]), 3)
        self.assertEqual(problem.cost_of(("fly", "fly", "go")), 20)
        self.assertEqual(problem.cost_of(()), 0)
        self.assertEqual(problem.cost_of(["light"]), 0)

    def test_cost_of_refused(self):
        for plan in (["stay"], ["go", "stay"]):
            with self.assertRaises(NoSuch):
                lamp().cost_of(plan)

    def test_check(self):
        problem = lamp()
        self.assertEqual(problem.check(["go", "light"]), 2)
        self.assertEqual(problem.check(("go", "light", "light")), 2)
        self.assertEqual(from_state(problem, LIT).check(()), 0)

    def test_check_asks_the_state_at_the_end(self):
        with self.assertRaises(BadPlan):
            lamp().check(["go", "light", "break"])

    def test_check_refused(self):
        problem = lamp()
        for plan, kind in (
            ([], BadPlan), (["go"], BadPlan), (["go", "break"], BadPlan), (["light"], BadDeed), (["fly"], BadDeed),
            (["go", "light", "go"], BadDeed), (["stay"], NoSuch), (["go", "light", "stay"], NoSuch),
        ):
            before = problem.shown()
            with self.assertRaises(kind, msg=plan):
                problem.check(plan)
            self.assertEqual(problem.shown(), before)

    def test_a_plan_is_left_as_it_is(self):
        problem, plan = lamp(), ["go", "light"]
        problem.check(plan)
        problem.states_of(plan)
        shorter(problem, plan)
        comes(problem, plan)
        self.assertEqual(plan, ["go", "light"])

    def test_all_facts(self):
        deeds = [Deed("x", ["n", "m"], ["b"], ["a"], ["d"]), plain("y", ["n"], ["c"], ["a"])]
        problem = Problem(["s"], deeds, ["g"], ["w"])
        self.assertEqual(problem.all_facts(), ("a", "b", "c", "d", "g", "m", "n", "s", "w"))
        self.assertEqual(Problem([], [], []).all_facts(), ())
        self.assertEqual(lamp().all_facts(), ("broken", "in", "lit", "out", "wings"))
        self.assertIs(type(lamp().all_facts()), tuple)

    def test_shown(self):
        self.assertEqual(
            lamp().shown(),
            (
                ("out",),
                (
                    ("go", ("out",), (), ("in",), ("out",), 2),
                    ("light", ("in",), ("broken",), ("lit",), (), 0),
                    ("break", ("in",), (), ("broken",), ("lit",), 1),
                    ("fly", ("wings",), (), ("lit",), (), 9),
                ),
                ("lit",),
                ("broken",),
            ),
        )


class ReachedTest(unittest.TestCase):
    def test_all_states_to_the_deed_and_state_ahead(self):
        found = reached(lamp())
        self.assertIs(type(found), dict)
        self.assertEqual(
            list(found.items()), [(OUT, None), (IN, ("go", OUT)), (LIT, ("light", IN)), (BROKEN, ("break", IN))],
        )

    def test_nearest_first_then_as_told(self):
        found = reached(bits(3))
        self.assertEqual(
            list(found),
            [
                (), ("f0",), ("f1",), ("f2",), ("f0", "f1"), ("f0", "f2"), ("f1", "f2"), ("f0", "f1", "f2"),
            ],
        )
        self.assertEqual(found[("f0", "f1")], ("in1", ("f0",)))
        self.assertEqual(found[("f0", "f1", "f2")], ("in2", ("f0", "f1")))

    def test_the_first_told_deed_is_kept(self):
        deeds = [plain("b", [], ["x"], [], 9), plain("a", [], ["x"], [], 0)]
        self.assertEqual(reached(Problem([], deeds, []))[("x",)], ("b", ()))

    def test_nearest_by_deeds_and_not_by_cost(self):
        deeds = [plain("a", [], ["x"], [], 0), plain("b", ["x"], ["y"], ["x"], 0), plain("c", [], ["y"], [], 99)]
        self.assertEqual(reached(Problem([], deeds, []))[("y",)], ("c", ()))

    def test_goes_on_behind_the_goal(self):
        self.assertIn(BROKEN, reached(with_goal(lamp(), ["in"])))

    def test_the_start_alone(self):
        self.assertEqual(reached(Problem([], [], ["g"])), {(): None})
        self.assertEqual(reached(Problem(["a"], [plain("x", ["a"], ["a"], [])], ["g"])), {("a",): None})

    def test_as_many_states_as_most_and_one_more(self):
        self.assertEqual(len(reached(lamp(), 4)), 4)
        self.assertEqual(len(reached(lamp(), most=5)), 4)
        for most in (3, 2, 1, 0):
            with self.assertRaises(BadSize):
                reached(lamp(), most)
        self.assertEqual(len(reached(bits(4), 16)), 16)
        with self.assertRaises(BadSize):
            reached(bits(4), 15)

    def test_the_start_is_counted(self):
        alone = Problem([], [], [])
        self.assertEqual(reached(alone, 1), {(): None})
        with self.assertRaises(BadSize):
            reached(alone, 0)

    def test_two_thousand_states_where_most_is_left_out(self):
        self.assertEqual(len(reached(wheels((20, 10, 10)))), 2000)
        with self.assertRaises(BadSize):
            reached(wheels((3, 23, 29)))

    def test_refused_changes_nothing(self):
        problem = lamp()
        before = problem.shown()
        with self.assertRaises(BadSize):
            reached(problem, 2)
        self.assertEqual(problem.shown(), before)
        self.assertEqual(len(reached(problem)), 4)


class WayToTest(unittest.TestCase):
    def test_way_to(self):
        table = reached(lamp())
        self.assertEqual(way_to(table, LIT), ("go", "light"))
        self.assertEqual(way_to(table, IN), ("go",))
        self.assertEqual(way_to(table, OUT), ())
        self.assertIs(type(way_to(table, LIT)), tuple)

    def test_a_state_may_be_a_list(self):
        self.assertEqual(way_to(reached(lamp()), ["in", "lit"]), ("go", "light"))

    def test_each_way_comes_there(self):
        problem = bits(4)
        table = reached(problem)
        for state in table:
            plan = way_to(table, state)
            self.assertEqual(problem.states_of(plan)[-1], state)
            self.assertEqual(len(plan), len(state))

    def test_a_long_way(self):
        self.assertEqual(way_to(reached(chain(500)), ("s499",)), tuple("d%d" % k for k in range(499)))

    def test_a_table_that_is_handed_in(self):
        table = {("a",): None, ("b",): ("x", ("a",)), ("c",): ("y", ("b",))}
        self.assertEqual(way_to(table, ("c",)), ("x", "y"))
        self.assertEqual(table, {("a",): None, ("b",): ("x", ("a",)), ("c",): ("y", ("b",))})

    def test_not_come_to(self):
        table = reached(lamp())
        for state in ((), ("wings",), ("lit",), ["lit"]):
            with self.assertRaises(NoSuch):
                way_to(table, state)
        with self.assertRaises(NoSuch):
            way_to({}, ())


class OtherProblemsTest(unittest.TestCase):
    def test_without(self):
        problem = lamp()
        rest = without(problem, ["break", "go"])
        self.assertEqual(list(rest.deeds), ["light", "fly"])
        self.assertEqual((rest.start, rest.goal, rest.bars), (("out",), ("lit",), ("broken",)))
        self.assertEqual(list(problem.deeds), ["go", "light", "break", "fly"])
        self.assertEqual(rest.deeds["light"].shown(), problem.deeds["light"].shown())

    def test_without_none_and_without_all(self):
        problem = lamp()
        self.assertEqual(without(problem, ()).shown(), problem.shown())
        self.assertEqual(without(problem, ["fly", "go", "light", "break"]).deeds, {})
        self.assertEqual(list(without(problem, ("go", "go")).deeds), ["light", "break", "fly"])

    def test_without_refused(self):
        problem = lamp()
        for names in (["stay"], ["go", "stay"], ("lit",)):
            with self.assertRaises(NoSuch):
                without(problem, names)
        self.assertEqual(problem.shown(), lamp().shown())

    def test_with_goal(self):
        problem = lamp()
        other = with_goal(problem, ["out", "in"], ["wings"])
        self.assertEqual((other.goal, other.bars), (("in", "out"), ("wings",)))
        self.assertEqual(other.shown()[:2], problem.shown()[:2])
        self.assertEqual((problem.goal, problem.bars), (("lit",), ("broken",)))

    def test_with_goal_bars_none_where_they_are_left_out(self):
        self.assertEqual(with_goal(lamp(), ["broken"]).bars, ())

    def test_with_goal_refused(self):
        problem = lamp()
        with self.assertRaises(BadPlan):
            with_goal(problem, ["a", "b"], ["b"])
        for args in ((["A"],), (["a"], [""])):
            with self.assertRaises(BadFact):
                with_goal(problem, *args)
        self.assertEqual(problem.shown(), lamp().shown())

    def test_from_state(self):
        problem = lamp()
        other = from_state(problem, ["wings", "in"])
        self.assertEqual(other.start, ("in", "wings"))
        self.assertEqual(other.shown()[1:], problem.shown()[1:])
        self.assertEqual(problem.start, ("out",))

    def test_from_state_refused(self):
        problem = lamp()
        with self.assertRaises(BadFact):
            from_state(problem, ["in", "A"])
        self.assertEqual(problem.shown(), lamp().shown())


class ShorterTest(unittest.TestCase):
    def test_leaves_out_what_can_be(self):
        problem = lamp()
        self.assertEqual(shorter(problem, ["go", "light", "light"]), ("go", "light"))
        self.assertEqual(shorter(from_state(problem, ["in", "wings"]), ["light", "fly", "light"]), ("light",))

    def test_a_plan_without_such_deeds_stays(self):
        self.assertEqual(shorter(lamp(), ["go", "light"]), ("go", "light"))
        self.assertEqual(shorter(lamp(), ("go", "light")), ("go", "light"))

    def test_to_an_empty_plan(self):
        problem = from_state(with_goal(lamp(), []), OUT)
        self.assertEqual(shorter(problem, ["go", "light", "break"]), ())
        self.assertEqual(shorter(problem, []), ())
        self.assertIs(type(shorter(problem, [])), tuple)

    def test_the_first_one_first(self):
        deeds = [plain("a", [], ["x"], []), plain("b", [], ["x"], [])]
        self.assertEqual(shorter(Problem([], deeds, ["x"]), ["a", "b"]), ("b",))
        self.assertEqual(shorter(Problem([], deeds, ["x"]), ["b", "a"]), ("a",))

    def test_from_the_first_again_behind_each_that_went(self):
        # "make" can be left out only when "use" is, and then "spare" is what stays.
        deeds = [
            plain("make", [], ["tool"], []), plain("use", ["tool"], ["done"], []), plain("spare", [], ["done"], []),
        ]
        self.assertEqual(shorter(Problem([], deeds, ["done"]), ["make", "use", "spare"]), ("spare",))

    def test_one_further_ahead_goes_ahead_of_one_behind(self):
        # When "c" went, "a" and "d" can each go, but not both.
        deeds = [
            plain("a", [], ["x"], []), plain("c", ["x"], ["y"], []), plain("d", [], ["x"], []),
            plain("e", ["x"], ["z", "y"], []),
        ]
        self.assertEqual(shorter(Problem([], deeds, ["z"]), ["a", "c", "d", "e"]), ("d", "e"))

    def test_no_one_deed_more_can_be_left_out(self):
        problem = with_goal(bits(3), ["f0", "f2"])
        plan = ["in1", "in0", "out0", "in2", "in0", "out1"]
        found = shorter(problem, plan)
        self.assertTrue(comes(problem, found))
        for place in range(len(found)):
            self.assertFalse(comes(problem, found[:place] + found[place + 1:]))

    def test_refused(self):
        problem = lamp()
        for plan, kind in ((["go"], BadPlan), ([], BadPlan), (["light"], BadDeed), (["go", "stay"], NoSuch)):
            with self.assertRaises(kind):
                shorter(problem, plan)


class ComesTest(unittest.TestCase):
    def test_comes(self):
        problem = lamp()
        self.assertIs(comes(problem, ["go", "light"]), True)
        self.assertIs(comes(problem, ("go", "light")), True)
        self.assertIs(comes(from_state(problem, LIT), ()), True)

    def test_does_not_come(self):
        problem = lamp()
        for plan in ([], ["go"], ["light"], ["go", "break", "light"], ["go", "light", "break"], ["stay"], ["go", "stay"]):
            self.assertIs(comes(problem, plan), False, plan)


class UselessTest(unittest.TestCase):
    def test_useless(self):
        self.assertEqual(useless(lamp()), ("fly",))
        self.assertEqual(useless(from_state(lamp(), BROKEN)), ("go", "light", "fly"))
        self.assertEqual(useless(from_state(lamp(), ["out", "wings"])), ())
        self.assertEqual(useless(Problem([], [], [])), ())
        self.assertIs(type(useless(lamp())), tuple)

    def test_as_told(self):
        deeds = [plain(name, ["never"], [], []) for name in ("c", "a", "b")]
        self.assertEqual(useless(Problem([], deeds, [])), ("c", "a", "b"))

    def test_a_deed_that_leads_nowhere_new_is_not_useless(self):
        self.assertEqual(useless(Problem([], [Deed("stay", [], [], [], [])], [])), ())

    def test_most(self):
        self.assertEqual(useless(lamp(), 4), ("fly",))
        self.assertEqual(useless(lamp(), most=4), ("fly",))
        with self.assertRaises(BadSize):
            useless(lamp(), 3)
        self.assertEqual(useless(wheels((20, 10, 10))), ())
        with self.assertRaises(BadSize):
            useless(wheels((3, 23, 29)))


class DeadEndsTest(unittest.TestCase):
    def test_dead_ends(self):
        self.assertEqual(dead_ends(lamp()), (BROKEN,))
        self.assertEqual(dead_ends(bits(3)), ())
        self.assertIs(type(dead_ends(lamp())), tuple)

    def test_a_goal_that_leads_nowhere_is_no_dead_end(self):
        self.assertEqual(dead_ends(chain(3)), ())

    def test_all_are_where_the_goal_can_not_be(self):
        self.assertEqual(dead_ends(with_goal(lamp(), ["never"])), (OUT, IN, LIT, BROKEN))

    def test_an_empty_goal_has_none(self):
        self.assertEqual(dead_ends(with_goal(lamp(), [])), ())

    def test_a_barred_fact_of_the_goal_is_asked(self):
        self.assertEqual(dead_ends(with_goal(chain(3), [], ["s2"])), (("s2",),))

    def test_nearest_first(self):
        deeds = [
            plain("z", ["s"], ["dead_z"], ["s"]), plain("m", ["dead_z"], ["dead_a"], ["dead_z"]),
            plain("b", ["s"], ["dead_b"], ["s"]), plain("g", ["s"], ["goal"], ["s"]),
        ]
        self.assertEqual(dead_ends(Problem(["s"], deeds, ["goal"])), (("dead_z",), ("dead_b",), ("dead_a",)))

    def test_a_state_that_comes_to_the_goal_by_many_deeds_is_none(self):
        deeds = [plain("a", ["s0"], ["s1"], ["s0"]), plain("b", ["s1"], ["s2"], ["s1"]), plain("c", ["s1"], ["s0"], ["s1"])]
        self.assertEqual(dead_ends(Problem(["s0"], deeds, ["s2"])), ())

    def test_most(self):
        self.assertEqual(dead_ends(lamp(), 4), (BROKEN,))
        self.assertEqual(dead_ends(lamp(), most=4), (BROKEN,))
        with self.assertRaises(BadSize):
            dead_ends(lamp(), 3)
        self.assertEqual(dead_ends(wheels((20, 10, 10))), ())
        with self.assertRaises(BadSize):
            dead_ends(wheels((3, 23, 29)))

    def test_held_against_reached_from_each_state(self):
        problem = lamp()
        for start in (OUT, IN, LIT, BROKEN, ("out", "wings")):
            here = from_state(problem, start)
            wanted = tuple(
                state for state in reached(here)
                if not any(here.is_goal(behind) for behind in reached(from_state(here, state)))
            )
            self.assertEqual(dead_ends(here), wanted)


if __name__ == "__main__":
    unittest.main()
