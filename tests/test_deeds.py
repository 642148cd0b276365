"""Facts and deeds: ordinary inputs, edges, refusals, and each answer held against all states of a few facts."""

import unittest
from itertools import combinations, product

from planwright.deeds import (
    SIGNS, Deed, are_free, back_from, check_fact, clash, facts, helps, hurts, in_turn, is_idle, may_swap, plain,
)
from planwright.errors import BadDeed, BadFact

BAD_FACTS = ("", "A", "aB", "a b", " a", "a ", "a\n", "a.b", "a/b", "a!b", "a:b", "a=b", "a[b]", "\u00e4", "a\u00df")


def all_states(names):
    """Return all states of some facts."""
    return [row for size in range(len(names) + 1) for row in combinations(names, size)]


def all_deeds(names):
    """Return a deed for each way to ask and to change some facts."""
    marks = list(product(("", "needs", "bars"), ("", "adds", "drops", "both")))
    found = []
    for rows in product(marks, repeat=len(names)):
        parts = {"needs": [], "bars": [], "adds": [], "drops": []}
        for name, (asked, changed) in zip(names, rows):
            if asked:
                parts[asked].append(name)
            for mark in ("adds", "drops") if changed == "both" else (changed,) if changed else ():
                parts[mark].append(name)
        found.append(Deed("d%d" % len(found), parts["needs"], parts["bars"], parts["adds"], parts["drops"]))
    return found


def behind(deed, state):
    """Return the state behind a deed, None where it can't be done."""
    return deed.done(state) if deed.fits(state) else None


def behind_both(one, other, state):
    """Return the state behind two deeds in turn, None where that can't be."""
    between = behind(one, state)
    return None if between is None else behind(other, between)


ONE_FACT = all_deeds(["x"])
TWO_FACTS = all_deeds(["x", "y"])
STATES = all_states(["x", "y"])
NOTHING = Deed("nothing", [], [], [], [])


class FactsTest(unittest.TestCase):
    def test_signs(self):
        self.assertEqual(SIGNS, "abcdefghijklmnopqrstuvwxyz0123456789_-,()")

    def test_a_fact_is_given_back(self):
        for fact in list(SIGNS) + [SIGNS, "on(a,b)", "a_b-c", "2", "("]:
            self.assertEqual(check_fact(fact), fact)

    def test_no_fact_is_refused(self):
        for fact in BAD_FACTS:
            with self.assertRaises(BadFact, msg=repr(fact)):
                check_fact(fact)

    def test_each_other_sign_is_refused_at_each_place(self):
        for code in range(256):
            if chr(code) not in SIGNS:
                for fact in (chr(code), chr(code) + "a", "a" + chr(code), "a" + chr(code) + "a"):
                    with self.assertRaises(BadFact, msg=repr(fact)):
                        check_fact(fact)

    def test_facts_stand_in_order_each_once(self):
        self.assertEqual(facts(["b", "a", "c", "a", "b"]), ("a", "b", "c"))
        self.assertEqual(facts(("b", "a")), ("a", "b"))
        self.assertEqual(facts(["b(2)", "b", "a_", "a-", "10", "9", "(", ","]), ("(", ",", "10", "9", "a-", "a_", "b", "b(2)"))

    def test_no_facts(self):
        self.assertEqual(facts([]), ())
        self.assertEqual(facts(()), ())

    def test_facts_are_a_tuple_and_leave_what_is_handed_in(self):
        words = ["b", "a", "b"]
        self.assertIs(type(facts(words)), tuple)
        self.assertEqual(words, ["b", "a", "b"])

    def test_facts_refuse_what_is_no_fact(self):
        for fact in BAD_FACTS:
            for row in ([fact], ["a", fact], (fact, "a"), ["a", fact, "z"]):
                with self.assertRaises(BadFact, msg=repr(row)):
                    facts(row)

    def test_refused_facts_leave_what_is_handed_in(self):
        words = ["b", "a", "A"]
        with self.assertRaises(BadFact):
            facts(words)
        self.assertEqual(words, ["b", "a", "A"])


class DeedTest(unittest.TestCase):
    def test_fields(self):
        deed = Deed("move(a,b)", ["n2", "n1", "n2"], ["b2", "b1"], ["a2", "a1"], ["d2", "d1"], 7)
        self.assertEqual(deed.name, "move(a,b)")
        self.assertEqual(deed.needs, ("n1", "n2"))
        self.assertEqual(deed.bars, ("b1", "b2"))
        self.assertEqual(deed.adds, ("a1", "a2"))
        self.assertEqual(deed.drops, ("d1", "d2"))
        self.assertEqual(deed.cost, 7)

    def test_cost_is_one_where_it_is_left_out(self):
        self.assertEqual(Deed("a", [], [], [], []).cost, 1)

    def test_cost_of_nought(self):
        self.assertEqual(Deed("a", [], [], [], [], 0).cost, 0)

    def test_fields_are_tuples_of_their_own(self):
        rows = [["n"], ["b"], ["a"], ["d"]]
        deed = Deed("x", *rows)
        for row in rows:
            row.append("more")
        for row in (deed.needs, deed.bars, deed.adds, deed.drops):
            self.assertIs(type(row), tuple)
        self.assertEqual(deed.shown(), ("x", ("n",), ("b",), ("a",), ("d",), 1))

    def test_rows_may_be_tuples(self):
        self.assertEqual(Deed("x", ("n",), ("b",), ("a",), ("d",)).shown(), ("x", ("n",), ("b",), ("a",), ("d",), 1))

    def test_what_is_added_and_dropped_is_added(self):
        deed = Deed("x", [], [], ["p", "q"], ["q", "r"])
        self.assertEqual(deed.adds, ("p", "q"))
        self.assertEqual(deed.drops, ("r",))
        self.assertEqual(deed.done(()), ("p", "q"))
        self.assertEqual(deed.done(("q", "r")), ("p", "q"))

    def test_needed_and_barred_is_refused(self):
        for needs, bars in ((["a"], ["a"]), (["a", "b"], ["b", "c"]), (["c", "a"], ["a"])):
            with self.assertRaises(BadDeed):
                Deed("x", needs, bars, [], [])

    def test_a_cost_below_nought_is_refused(self):
        for cost in (-1, -100):
            with self.assertRaises(BadDeed):
                Deed("x", [], [], [], [], cost)

    def test_no_fact_is_refused_at_each_place(self):
        for fact in BAD_FACTS:
            with self.assertRaises(BadFact):
                Deed(fact, [], [], [], [])
            for place in range(4):
                rows = [[], [], [], []]
                rows[place] = ["a", fact]
                with self.assertRaises(BadFact, msg=(place, fact)):
                    Deed("x", *rows)

    def test_no_fact_is_refused_among_the_dropped_that_are_added(self):
        with self.assertRaises(BadFact):
            Deed("x", [], [], ["a"], ["a", "A"])

    def test_refused_leaves_what_is_handed_in(self):
        rows = [["b", "a"], ["a", "b"], ["d", "c"], ["c", "d"]]
        with self.assertRaises(BadDeed):
            Deed("x", *rows)
        self.assertEqual(rows, [["b", "a"], ["a", "b"], ["d", "c"], ["c", "d"]])

    def test_fits(self):
        deed = Deed("x", ["n1", "n2"], ["b1", "b2"], [], [])
        self.assertIs(deed.fits(("n1", "n2")), True)
        self.assertIs(deed.fits(["n1", "n2", "other"]), True)

    def test_does_not_fit_without_a_need(self):
        deed = Deed("x", ["n1", "n2"], ["b1", "b2"], [], [])
        for state in ((), ("n1",), ("n2",)):
            self.assertIs(deed.fits(state), False)

    def test_does_not_fit_with_a_barred_fact(self):
        deed = Deed("x", ["n1"], ["b1", "b2"], [], [])
        for state in (("b1", "n1"), ("b2", "n1"), ("b1", "b2", "n1")):
            self.assertIs(deed.fits(state), False)

    def test_nothing_asked_fits_always(self):
        for state in STATES:
            self.assertIs(NOTHING.fits(state), True)

    def test_done(self):
        deed = Deed("x", ["n"], ["b"], ["z", "a"], ["n", "m"])
        self.assertEqual(deed.done(("m", "n", "o")), ("a", "o", "z"))

    def test_done_is_a_state_in_order_each_once(self):
        deed = Deed("x", [], [], ["b"], [])
        self.assertEqual(deed.done(["c", "b", "a"]), ("a", "b", "c"))
        self.assertIs(type(deed.done(["c"])), tuple)

    def test_done_leaves_the_state_that_is_handed_in(self):
        state = ["c", "a"]
        Deed("x", ["c"], [], ["b"], ["c"]).done(state)
        self.assertEqual(state, ["c", "a"])

    def test_done_may_leave_nothing(self):
        self.assertEqual(Deed("x", ["a"], [], [], ["a"]).done(("a",)), ())
        self.assertEqual(NOTHING.done(()), ())

    def test_done_is_refused_where_it_does_not_fit(self):
        deed = Deed("x", ["n"], ["b"], ["a"], ["n"])
        for state in ((), ("a",), ("b", "n")):
            with self.assertRaises(BadDeed):
                deed.done(state)
        self.assertEqual(deed.shown(), ("x", ("n",), ("b",), ("a",), ("n",), 1))

    def test_done_refuses_what_is_no_fact_in_a_state(self):
        with self.assertRaises(BadFact):
            Deed("x", ["n"], [], ["a"], []).done(["n", "N"])

    def test_done_that_does_not_fit_is_told_ahead_of_what_is_no_fact(self):
        with self.assertRaises(BadDeed):
            Deed("x", ["n"], [], ["a"], []).done(["N"])

    def test_shown(self):
        deed = Deed("x", ["b", "a"], ["c"], ["d"], ["a"], 0)
        self.assertEqual(deed.shown(), ("x", ("a", "b"), ("c",), ("d",), ("a",), 0))
        self.assertIs(type(deed.shown()), tuple)

    def test_two_deeds_keep_apart(self):
        one = Deed("one", ["a"], [], [], [], 2)
        Deed("other", ["b"], [], [], [], 3)
        self.assertEqual(one.shown(), ("one", ("a",), (), (), (), 2))


class PlainTest(unittest.TestCase):
    def test_plain(self):
        deed = plain("x", ["n"], ["a"], ["d"], 4)
        self.assertIs(type(deed), Deed)
        self.assertEqual(deed.shown(), ("x", ("n",), (), ("a",), ("d",), 4))

    def test_cost_is_one_where_it_is_left_out(self):
        self.assertEqual(plain("x", [], [], []).cost, 1)

    def test_refused(self):
        with self.assertRaises(BadDeed):
            plain("x", [], [], [], -1)
        for args in (("X", [], [], []), ("x", [""], [], []), ("x", [], ["A"], []), ("x", [], [], ["a b"])):
            with self.assertRaises(BadFact):
                plain(*args)


class IdleTest(unittest.TestCase):
    def test_idle(self):
        self.assertIs(is_idle(NOTHING), True)
        self.assertIs(is_idle(Deed("x", ["a"], ["b"], ["a"], ["b"])), True)
        self.assertIs(is_idle(Deed("x", ["a"], [], ["a"], ["a"])), True)

    def test_not_idle(self):
        self.assertIs(is_idle(Deed("x", [], [], ["a"], [])), False)
        self.assertIs(is_idle(Deed("x", [], [], [], ["a"])), False)
        self.assertIs(is_idle(Deed("x", ["a"], [], ["a", "b"], [])), False)
        self.assertIs(is_idle(Deed("x", [], ["a"], [], ["a", "b"])), False)

    def test_idle_is_just_what_leaves_all_states(self):
        for deed in TWO_FACTS:
            leaves = all(deed.done(state) == state for state in STATES if deed.fits(state))
            self.assertIs(is_idle(deed), leaves, deed.shown())


class InTurnTest(unittest.TestCase):
    def test_in_turn(self):
        one = Deed("one", ["a"], ["p"], ["b", "c"], ["a"], 2)
        other = Deed("other", ["b", "d"], ["a", "q"], ["a"], ["c", "b"], 3)
        self.assertEqual(
            in_turn(one, other, "both").shown(), ("both", ("a", "d"), ("p", "q"), ("a",), ("b", "c"), 5),
        )

    def test_leaves_both(self):
        one = Deed("one", ["a"], [], ["b"], ["a"], 2)
        other = Deed("other", ["b"], [], ["c"], ["b"], 0)
        in_turn(one, other, "both")
        self.assertEqual(one.shown(), ("one", ("a",), (), ("b",), ("a",), 2))
        self.assertEqual(other.shown(), ("other", ("b",), (), ("c",), ("b",), 0))

    def test_never_follows_by_a_need(self):
        other = Deed("other", ["a"], [], [], [])
        for one in (Deed("one", ["a"], [], [], ["a"]), Deed("one", [], [], [], ["a"]), Deed("one", [], ["a"], [], [])):
            with self.assertRaises(BadDeed):
                in_turn(one, other, "both")

    def test_never_follows_by_a_barred_fact(self):
        other = Deed("other", [], ["a"], [], [])
        for one in (Deed("one", [], [], ["a"], []), Deed("one", ["a"], [], [], []), Deed("one", [], ["a"], ["a"], [])):
            with self.assertRaises(BadDeed):
                in_turn(one, other, "both")

    def test_follows_what_is_barred_but_added_and_needed_but_dropped(self):
        one = Deed("one", ["b"], ["a"], ["a"], ["b"])
        other = Deed("other", ["a"], ["b"], [], [])
        self.assertEqual(in_turn(one, other, "both").shown(), ("both", ("b",), ("a",), ("a",), ("b",), 2))

    def test_a_name_that_is_no_fact_is_refused(self):
        for name in BAD_FACTS:
            with self.assertRaises(BadFact):
                in_turn(NOTHING, NOTHING, name)

    def test_what_never_follows_is_told_ahead_of_a_name(self):
        one = Deed("one", ["n"], ["b"], [], [])
        for other in (Deed("other", ["b"], [], [], []), Deed("other", [], ["n"], [], [])):
            with self.assertRaises(BadDeed):
                in_turn(one, other, "No Name")

    def test_does_just_what_both_do(self):
        never = 0
        for one in TWO_FACTS:
            for other in ONE_FACT + TWO_FACTS[::5]:
                wanted = [behind_both(one, other, state) for state in STATES]
                if all(state is None for state in wanted):
                    never += 1
                    with self.assertRaises(BadDeed, msg=(one.shown(), other.shown())):
                        in_turn(one, other, "both")
                else:
                    both = in_turn(one, other, "both")
                    self.assertEqual([behind(both, state) for state in STATES], wanted, (one.shown(), other.shown()))
        self.assertGreater(never, 0)


class TwoDeedsTest(unittest.TestCase):
    def test_hurts(self):
        needs, bars = Deed("n", ["a"], [], [], []), Deed("b", [], ["a"], [], [])
        adds, drops = Deed("p", [], [], ["a"], []), Deed("q", [], [], [], ["a"])
        self.assertIs(hurts(drops, needs), True)
        self.assertIs(hurts(adds, bars), True)
        self.assertIs(hurts(adds, needs), False)
        self.assertIs(hurts(drops, bars), False)
        self.assertIs(hurts(needs, drops), False)
        self.assertIs(hurts(bars, adds), False)
        self.assertIs(hurts(adds, drops), False)

    def test_clash(self):
        adds, drops = Deed("p", [], [], ["a"], []), Deed("q", [], [], [], ["a"])
        self.assertIs(clash(adds, drops), True)
        self.assertIs(clash(drops, adds), True)
        self.assertIs(clash(adds, adds), False)
        self.assertIs(clash(drops, drops), False)
        self.assertIs(clash(adds, Deed("q", [], [], ["a"], ["a"])), False)
        self.assertIs(clash(adds, Deed("q", ["a"], [], [], ["b"])), False)

    def test_helps(self):
        needs, bars = Deed("n", ["a"], [], [], []), Deed("b", [], ["a"], [], [])
        adds, drops = Deed("p", [], [], ["a"], []), Deed("q", [], [], [], ["a"])
        self.assertIs(helps(adds, needs), True)
        self.assertIs(helps(drops, bars), True)
        self.assertIs(helps(drops, needs), False)
        self.assertIs(helps(adds, bars), False)
        self.assertIs(helps(needs, adds), False)
        self.assertIs(helps(bars, drops), False)

    def test_are_free(self):
        adds, drops = Deed("p", [], [], ["a"], []), Deed("q", [], [], [], ["a"])
        needs, bars = Deed("n", ["a"], [], [], []), Deed("b", [], ["a"], [], [])
        for one, other, free in (
            (adds, drops, False), (drops, needs, False), (adds, bars, False), (adds, needs, True), (drops, bars, True),
            (adds, adds, True), (drops, drops, True), (needs, needs, True), (needs, bars, True), (NOTHING, adds, True),
        ):
            self.assertIs(are_free(one, other), free, (one.name, other.name))
            self.assertIs(are_free(other, one), free, (other.name, one.name))

    def test_a_deed_that_drops_its_need_is_not_free_of_itself(self):
        deed = Deed("x", ["a"], [], [], ["a"])
        self.assertIs(are_free(deed, deed), False)

    def test_may_swap(self):
        adds, drops = Deed("p", [], [], ["a"], []), Deed("q", [], [], [], ["a"])
        needs, bars = Deed("n", ["a"], [], [], []), Deed("b", [], ["a"], [], [])
        for one, other, swap in (
            (adds, drops, False), (drops, needs, False), (adds, bars, False), (adds, needs, False), (drops, bars, False),
            (adds, adds, True), (drops, drops, True), (needs, needs, True), (needs, bars, True), (NOTHING, adds, True),
        ):
            self.assertIs(may_swap(one, other), swap, (one.name, other.name))
            self.assertIs(may_swap(other, one), swap, (other.name, one.name))

    def test_one_fact_of_many_is_enough(self):
        one = Deed("one", ["n1", "n2"], ["b1", "b2"], ["a1", "a2"], ["d1", "d2"])
        self.assertIs(hurts(one, Deed("x", ["c", "d2"], [], [], [])), True)
        self.assertIs(hurts(one, Deed("x", [], ["a2", "c"], [], [])), True)
        self.assertIs(helps(one, Deed("x", ["a2", "c"], [], [], [])), True)
        self.assertIs(helps(one, Deed("x", [], ["c", "d2"], [], [])), True)
        self.assertIs(clash(one, Deed("x", [], [], ["c", "d2"], [])), True)
        self.assertIs(clash(one, Deed("x", [], [], [], ["a2", "c"])), True)

    def test_held_against_all_deeds_of_a_fact(self):
        for one, other in product(ONE_FACT, ONE_FACT):
            shown = (one.shown(), other.shown())
            takes = [bool(set(a.drops) & set(b.needs) or set(a.adds) & set(b.bars)) for a, b in ((one, other), (other, one))]
            clashes = bool(set(one.adds) & set(other.drops) or set(one.drops) & set(other.adds))
            gives = [bool(set(a.adds) & set(b.needs) or set(a.drops) & set(b.bars)) for a, b in ((one, other), (other, one))]
            free = not (any(takes) or clashes)
            self.assertIs(hurts(one, other), takes[0], shown)
            self.assertIs(clash(one, other), clashes, shown)
            self.assertIs(helps(one, other), gives[0], shown)
            self.assertIs(are_free(one, other), free, shown)
            self.assertIs(may_swap(one, other), free and not any(gives), shown)

    def test_free_deeds_may_be_done_in_either_order(self):
        for one, other in product(TWO_FACTS, ONE_FACT + TWO_FACTS[::7]):
            if are_free(one, other):
                for state in STATES:
                    if one.fits(state) and other.fits(state):
                        self.assertEqual(behind_both(one, other, state), behind_both(other, one, state))
                        self.assertIsNotNone(behind_both(one, other, state))

    def test_what_may_swap_may_be_done_in_turn_in_either_order(self):
        for one, other in product(TWO_FACTS, ONE_FACT + TWO_FACTS[::7]):
            if may_swap(one, other):
                for state in STATES:
                    self.assertEqual(behind_both(one, other, state), behind_both(other, one, state))


class BackFromTest(unittest.TestCase):
    def test_back_from(self):
        deed = Deed("x", ["n"], ["b"], ["g1"], ["n", "w1"])
        self.assertEqual(back_from(["g2", "g1"], ["w2", "w1"], deed), (("g2", "n"), ("b", "w2")))

    def test_kinds(self):
        found = back_from(["g"], [], Deed("x", ["n"], ["b"], ["g"], []))
        self.assertIs(type(found), tuple)
        self.assertEqual([type(row) for row in found], [tuple, tuple])

    def test_facts_in_order_each_once(self):
        deed = Deed("x", ["n", "k"], ["c", "v"], ["g"], [])
        self.assertEqual(back_from(("n", "g", "a", "g"), ("v", "d"), deed), (("a", "k", "n"), ("c", "d", "v")))

    def test_leaves_what_is_handed_in(self):
        goal, bars = ["h", "g"], ["w", "v"]
        back_from(goal, bars, Deed("x", [], [], ["g"], ["v"]))
        self.assertEqual((goal, bars), (["h", "g"], ["w", "v"]))

    def test_helps_by_adding_alone_or_dropping_alone(self):
        self.assertEqual(back_from(["g"], ["w"], Deed("x", [], [], ["g"], [])), ((), ("w",)))
        self.assertEqual(back_from(["g"], ["w"], Deed("x", [], [], [], ["w"])), (("g",), ()))

    def test_none_where_it_does_not_help(self):
        self.assertIsNone(back_from(["g"], ["w"], Deed("x", ["g"], ["w"], ["other"], ["more"])))
        self.assertIsNone(back_from(["g"], ["w"], NOTHING))
        self.assertIsNone(back_from([], [], Deed("x", ["n"], ["b"], ["a"], ["d"])))

    def test_none_where_it_spoils(self):
        self.assertIsNone(back_from(["g", "h"], [], Deed("x", [], [], ["g"], ["h"])))
        self.assertIsNone(back_from(["g"], ["w"], Deed("x", [], [], ["g", "w"], [])))
        self.assertIsNone(back_from([], ["v", "w"], Deed("x", [], [], ["v"], ["w"])))

    def test_none_where_what_is_left_can_not_be(self):
        self.assertIsNone(back_from(["g", "h"], [], Deed("x", [], ["h"], ["g"], [])))
        self.assertIsNone(back_from(["g"], ["w"], Deed("x", ["w"], [], ["g"], [])))
        self.assertIsNone(back_from(["g", "h"], ["h"], Deed("x", [], [], ["g"], [])))

    def test_what_is_needed_and_dropped_or_barred_and_added_is_left(self):
        self.assertEqual(back_from(["g"], ["w"], Deed("x", ["w"], ["g"], ["g"], ["w"])), (("w",), ("g",)))

    def test_no_fact_is_refused(self):
        deed = Deed("x", ["n"], [], ["g"], [])
        for fact in BAD_FACTS:
            with self.assertRaises(BadFact):
                back_from(["g", fact], [], deed)
            with self.assertRaises(BadFact):
                back_from(["g"], [fact], deed)
            with self.assertRaises(BadFact):
                back_from([fact], [], NOTHING)
            with self.assertRaises(BadFact):
                back_from(["g"], [fact], NOTHING)

    def test_tells_just_the_states_from_which_it_leads_there(self):
        for deed in TWO_FACTS:
            for goal, bars in product(STATES, STATES):
                gives = bool(set(deed.adds) & set(goal) or set(deed.drops) & set(bars))
                leads = [
                    deed.fits(state) and set(goal) <= set(deed.done(state)) and not set(bars) & set(deed.done(state))
                    for state in STATES
                ]
                found = back_from(goal, bars, deed)
                shown = (goal, bars, deed.shown())
                if not gives or not any(leads):
                    self.assertIsNone(found, shown)
                else:
                    asked = [set(found[0]) <= set(state) and not set(found[1]) & set(state) for state in STATES]
                    self.assertEqual(asked, leads, shown)


if __name__ == "__main__":
    unittest.main()
