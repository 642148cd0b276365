"""Schemas: letters and kinds, rows of words, all deeds that things make, texts told and read, and what is refused."""

import unittest
from itertools import product

from planwright.deeds import Deed
from planwright.errors import BadDeed, BadFact, BadPlan, BadText, PlanFault
from planwright.problems import Problem
from planwright.schemas import (
    LETTERS, MARKS, Schema, all_of, check_row, check_word, grounded, kinds_of, lessened, made_or_none, number, parted,
    read_schema, still, told_fact, told_schema,
)
from planwright.searches import cheapest
from samples import kinds, true_costs

THINGS = {"shop": "place", "home": "place", "ann": "man", "bob": "man"}
WRONG_WORDS = ("", "A", "a b", "a,b", "a(b)", "a(", "a)", "(", ",", "a\n", "a:b", "a=b", "a.b", "a!")
WORDS = ("a", "0", "_", "-", "x-1", "a_b", "needs", "cost")


def go():
    """Return a schema of a man that goes from a place to another, on a road that isn't shut."""
    return Schema(
        "go", [("m", "man"), ("x", "place"), ("y", "place")],
        [("at", "m", "x"), ("road", "x", "y")], [("shut", "y")], [("at", "m", "y")], [("at", "m", "x")], 2,
    )


def rest():
    """Return a schema without letters."""
    return Schema("rest", [], [["night"]], [], [["fresh"]], [["tired"]])


class SchemaTest(unittest.TestCase):
    def test_constants(self):
        self.assertEqual(LETTERS, "abcdefghijklmnopqrstuvwxyz0123456789_-")
        self.assertEqual(MARKS, (("needs",), ("bars",), ("adds",), ("drops",)))

    def test_fields(self):
        schema = Schema(
            "go", [["x", "place"], ("y", "place")],
            [["at", "x"], ("road", "x", "y")], [("shut", "y")], (["at", "y"],), [["at", "x"], ["fresh"]],
        )
        self.assertEqual(schema.name, "go")
        self.assertEqual(schema.letters, (("x", "place"), ("y", "place")))
        rows = ((("at", "x"), ("road", "x", "y")), (("shut", "y"),), (("at", "y"),), (("at", "x"), ("fresh",)))
        self.assertEqual(schema.rows, rows)
        self.assertEqual(schema.cost, 1)
        self.assertEqual(schema.shown(), ("go", (("x", "place"), ("y", "place")), rows, 1))
        self.assertEqual(kinds(schema.shown()), kinds(("go", (("x", "place"), ("y", "place")), rows, 1)))
        self.assertEqual(go().cost, 2)

    def test_rows_stand_as_they_were_told(self):
        schema = Schema("s", [("z", "k"), ("a", "k")], [("q",), ("b",), ("q",)], [], [], [])
        self.assertEqual(schema.shown(), ("s", (("z", "k"), ("a", "k")), ((("q",), ("b",), ("q",)), (), (), ()), 1))

    def test_no_letters(self):
        schema = Schema("s", (), (), (), (), ())
        self.assertEqual(schema.shown(), ("s", (), ((), (), (), ()), 1))
        self.assertEqual(schema.made(()).shown(), ("s", (), (), (), (), 1))
        self.assertEqual(rest().made([]).shown(), ("rest", ("night",), (), ("fresh",), ("tired",), 1))

    def test_a_row_of_words_is_kept_apart_from_what_was_handed_in(self):
        needs = [["at", "x"]]
        schema = Schema("s", [("x", "k")], needs, [], [], [])
        needs[0].append("y")
        needs.append(["b"])
        self.assertEqual(schema.rows[0], (("at", "x"),))

    def test_words_refused(self):
        for word in WRONG_WORDS:
            for told in (
                (word, [("x", "k")], [], [], [], []),
                ("s", [(word, "k")], [], [], [], []),
                ("s", [("x", word)], [], [], [], []),
                ("s", [], [("at", word)], [], [], []),
                ("s", [], [], [(word,)], [], []),
                ("s", [], [], [], [("at", "x"), ("at", word)], []),
                ("s", [], [], [], [], [(word, "x")]),
            ):
                with self.assertRaises(BadFact, msg=told):
                    Schema(*told)

    def test_rows_of_no_words_refused(self):
        for place in range(4):
            parts = [[], [], [], []]
            parts[place] = [()]
            with self.assertRaises(BadFact):
                Schema("s", [], *parts)

    def test_two_letters_alike_refused(self):
        for letters in ([("x", "k"), ("x", "k")], [("x", "k"), ("y", "k"), ["x", "j"]]):
            with self.assertRaises(BadDeed):
                Schema("s", letters, [], [], [], [])
        self.assertEqual(Schema("s", [("x", "k"), ("k", "x")], [], [], [], []).letters, (("x", "k"), ("k", "x")))

    def test_costs(self):
        for cost in (-1, 10000, -9999, 123456):
            with self.assertRaises(BadDeed):
                Schema("s", [], [], [], [], [], cost)
        for cost in (0, 1, 9999):
            self.assertEqual(Schema("s", [], [], [], [], [], cost).made([]).cost, cost)

    def test_a_marks_word_for_a_lone_fact_refused(self):
        for word in ("needs", "bars", "adds", "drops"):
            for place in range(4):
                parts = [[("a",)], [("b",)], [], []]
                parts[place] = parts[place] + [[word]]
                with self.assertRaises(BadDeed):
                    Schema("s", [], *parts)
            schema = Schema(word, [(word, word)], [(word, word)], [], [], [])
            self.assertEqual(schema.made(["a"]).shown(), (word + "(a)", (word + "(a)",), (), (), (), 1))

    def test_made(self):
        deed = go().made(("ann", "home", "shop"))
        self.assertIsInstance(deed, Deed)
        self.assertEqual(deed.shown(), (
            "go(ann,home,shop)", ("at(ann,home)", "road(home,shop)"), ("shut(shop)",), ("at(ann,shop)",),
            ("at(ann,home)",), 2,
        ))
        self.assertEqual(go().made(["ann", "home", "home"]).drops, ())

    def test_what_isnt_a_letter_stands_for_itself(self):
        schema = Schema("buy", [("x", "thing")], [("at", "ann", "shop")], [], [("has", "ann", "x")], [])
        self.assertEqual(schema.made(["tea"]).shown(), ("buy(tea)", ("at(ann,shop)",), (), ("has(ann,tea)",), (), 1))

    def test_the_first_word_is_not_exchanged(self):
        schema = Schema("x", [("x", "k"), ("y", "k")], [("x", "x"), ("y", "x", "y")], [], [("x",)], [])
        self.assertEqual(schema.made(("a", "b")).shown(), ("x(a,b)", ("x(a)", "y(a,b)"), (), ("x",), (), 1))

    def test_things_called_as_letters_are_exchanged_once(self):
        schema = Schema("s", [("x", "k"), ("y", "k")], [("at", "x", "y")], [], [], [])
        self.assertEqual(schema.made(("y", "x")).needs, ("at(y,x)",))

    def test_made_refused(self):
        schema = Schema("s", [("x", "k"), ("y", "k")], [("at", "x")], [("at", "y")], [], [])
        with self.assertRaises(BadDeed):
            schema.made(("a", "a"))
        self.assertEqual(schema.made(("a", "b")).shown(), ("s(a,b)", ("at(a)",), ("at(b)",), (), (), 1))
        for thing in ("A", "a b", "%"):
            with self.assertRaises(BadFact):
                schema.made((thing, "b"))

    def test_made_or_none(self):
        schema = Schema("s", [("x", "k"), ("y", "k")], [("at", "x")], [("at", "y")], [], [])
        self.assertIsNone(made_or_none(schema, ("a", "a")))
        self.assertEqual(made_or_none(schema, ["a", "b"]).shown(), schema.made(["a", "b"]).shown())


class WordTest(unittest.TestCase):
    def test_check_word(self):
        for word in WORDS:
            self.assertEqual(check_word(word), word)
        for word in WRONG_WORDS:
            with self.assertRaises(BadFact):
                check_word(word)

    def test_check_row(self):
        self.assertEqual(check_row(["at", "x", "at"]), ("at", "x", "at"))
        self.assertEqual(check_row(("at",)), ("at",))
        self.assertEqual(type(check_row(["at"])), tuple)
        for row in ([], (), ["at", ""], ["A"], ("a", "b", "c(")):
            with self.assertRaises(BadFact):
                check_row(row)

    def test_told_fact(self):
        for row, table, told in (
            (("at",), {}, "at"), (["at"], {"at": "x"}, "at"), (("at", "x"), {}, "at(x)"),
            (("at", "x", "y"), {"x": "y", "y": "x"}, "at(y,x)"), (["x", "x", "z"], {"x": "home"}, "x(home,z)"),
            (("at", "at"), {"at": "b"}, "at(b)"),
        ):
            self.assertEqual(told_fact(row, table), told)
        for row, table in ((("A",), {}), (("at", "x"), {"x": "%"}), (("",), {}), (("at", "X"), {})):
            with self.assertRaises(BadFact):
                told_fact(row, table)

    def test_parted(self):
        for fact, row in (
            ("at", ("at",)), ("at(x)", ("at", "x")), ("at(x,y-1,_)", ("at", "x", "y-1", "_")), ("0(1)", ("0", "1")),
        ):
            self.assertEqual(parted(fact), row)
            self.assertEqual(type(parted(fact)), tuple)
            self.assertEqual(told_fact(parted(fact), {}), fact)

    def test_parted_refused(self):
        for fact in (
            "", "A", "at()", "at(", "at(x", "at(xy", "at)", "at(x)y", "(x)", "at(x,)", "at(,x)", "at(x,,y)", "at(x(y))", "at((x)",
            "a,b", "a,b(x)", "at(x))", "at x", ")", ",", "at(x)(y)",
        ):
            with self.assertRaises(BadFact, msg=fact):
                parted(fact)

    def test_number(self):
        for word, told in (("0", 0), ("7", 7), ("0000", 0), ("0012", 12), ("9999", 9999), ("100", 100)):
            self.assertEqual(number(word), told)
        for word in ("", "10000", "00000", "-1", "+1", "1 ", " 1", "1.0", "a", "1a", "1_0", "0x1", "\u0663"):
            with self.assertRaises(BadText, msg=word):
                number(word)

    def test_kinds_of(self):
        found = kinds_of(THINGS)
        self.assertEqual(list(found.items()), [("man", ("ann", "bob")), ("place", ("home", "shop"))])
        self.assertEqual(kinds_of({}), {})
        self.assertEqual([type(found), type(found["man"])], [dict, tuple])
        for things in ({"A": "man"}, {"ann": "Man"}, {"": "man"}, {"ann": ""}):
            with self.assertRaises(BadFact):
                kinds_of(things)


class AllOfTest(unittest.TestCase):
    def test_things_in_order_letter_by_letter(self):
        deeds = all_of(go(), THINGS)
        self.assertEqual(type(deeds), list)
        self.assertEqual([deed.name for deed in deeds], [
            "go(ann,home,home)", "go(ann,home,shop)", "go(ann,shop,home)", "go(ann,shop,shop)",
            "go(bob,home,home)", "go(bob,home,shop)", "go(bob,shop,home)", "go(bob,shop,shop)",
        ])
        self.assertEqual(deeds[1].shown(), go().made(("ann", "home", "shop")).shown())

    def test_letters_stand_as_told(self):
        schema = Schema("s", [("y", "man"), ("x", "place")], [("at", "x", "y")], [], [], [])
        self.assertEqual([deed.name for deed in all_of(schema, THINGS)], ["s(ann,home)", "s(ann,shop)", "s(bob,home)", "s(bob,shop)"])
        self.assertEqual(all_of(schema, THINGS)[1].needs, ("at(shop,ann)",))

    def test_what_would_be_needed_and_barred_is_left_out(self):
        schema = Schema("s", [("x", "place"), ("y", "place")], [("at", "x")], [("at", "y")], [], [])
        self.assertEqual([deed.name for deed in all_of(schema, THINGS)], ["s(home,shop)", "s(shop,home)"])

    def test_no_letters_and_no_things(self):
        self.assertEqual([deed.shown() for deed in all_of(rest(), {})], [("rest", ("night",), (), ("fresh",), ("tired",), 1)])
        self.assertEqual(all_of(go(), {}), [])
        self.assertEqual(all_of(go(), {"home": "place"}), [])
        self.assertEqual(all_of(Schema("s", [], [("a",)], [("a",)], [], []), THINGS), [])

    def test_no_thing_is_changed(self):
        things = dict(THINGS)
        all_of(go(), things)
        self.assertEqual(list(things.items()), list(THINGS.items()))


class GroundedTest(unittest.TestCase):
    def problem(self):
        """Return the problem of Ann that goes to the shop; the way back is shut."""
        return grounded(
            [go(), rest()], THINGS, [("at", "ann", "home"), ["road", "home", "shop"], ("shut", "home")],
            [("at", "ann", "shop")], [["tired"]],
        )

    def test_grounded(self):
        problem = self.problem()
        self.assertEqual(problem.start, ("at(ann,home)", "road(home,shop)", "shut(home)"))
        self.assertEqual((problem.goal, problem.bars), (("at(ann,shop)",), ("tired",)))
        self.assertEqual(list(problem.deeds), [deed.name for deed in all_of(go(), THINGS)] + ["rest"])
        self.assertEqual(cheapest(problem), (2, ("go(ann,home,shop)",)))
        self.assertEqual(grounded([], {}, [], [["a"]]).shown(), ((), (), ("a",), ()))

    def test_refused(self):
        for start, goal, bars in (
            ([()], [], ()), ([["A"]], [], ()), ([], [[]], ()), ([], [["a", "b(c)"]], ()), ([], [], [[]]), ([], [], [["", "a"]]),
        ):
            with self.assertRaises(BadFact):
                grounded([go()], THINGS, start, goal, bars)
        with self.assertRaises(BadDeed):
            grounded([go(), go()], THINGS, [], [])
        with self.assertRaises(BadDeed):
            grounded([rest(), rest()], {}, [], [])
        with self.assertRaises(BadPlan):
            grounded([rest()], {}, [], [("a", "b")], [["a", "b"]])

    def test_still(self):
        self.assertEqual(still([go(), rest()]), ("night", "road", "shut"))
        self.assertEqual(still([rest()]), ("night",))
        self.assertEqual(still([]), ())
        self.assertEqual(type(still([go()])), tuple)
        moves = Schema("s", [], [("a",)], [("b", "x")], [("c",)], [("d", "y")])
        self.assertEqual(still([moves]), ("a", "b"))
        self.assertEqual(still([moves, Schema("t", [], [("c",)], [("d",)], [("b", "z")], [("a", "z")])]), ())
        self.assertEqual(still([Schema("s", [], [("z",), ("a", "z")], [("m", "a")], [], [])]), ("a", "m", "z"))

    def test_lessened(self):
        problem = self.problem()
        less = lessened(problem, still([go(), rest()]))
        self.assertEqual(less.start, ("at(ann,home)",))
        self.assertEqual(list(less.deeds), ["go(ann,home,shop)", "go(bob,home,shop)"])
        self.assertEqual(less.deeds["go(ann,home,shop)"].shown(), (
            "go(ann,home,shop)", ("at(ann,home)",), (), ("at(ann,shop)",), ("at(ann,home)",), 2,
        ))
        self.assertEqual((less.goal, less.bars), (("at(ann,shop)",), ("tired",)))
        self.assertEqual(cheapest(less), cheapest(problem))
        self.assertEqual(lessened(problem, ()).shown(), problem.shown())
        self.assertEqual(lessened(problem, ["shut"]).start, ("at(ann,home)", "road(home,shop)"))

    def test_goals_of_still_words(self):
        deed = Deed("d", ["a"], [], ["b"], ["a"])
        problem = Problem(["a", "s(x)"], [deed], ["b", "s(x)"], ["s(y)"])
        less = lessened(problem, ["s"])
        self.assertEqual(less.shown(), (("a",), (deed.shown(),), ("b",), ()))
        with self.assertRaises(BadPlan):
            lessened(Problem(["a", "s(x)"], [deed], ["s(y)"]), ["s"])
        with self.assertRaises(BadPlan):
            lessened(Problem(["a", "s(x)"], [deed], ["s(x)", "s(y)"]), ["s"])
        with self.assertRaises(BadPlan):
            lessened(Problem(["a", "s(x)"], [deed], [], ["s(x)"]), ("q", "s"))
        self.assertEqual(lessened(Problem(["a", "s(x)"], [deed], ["s(y)"], ["s(x)"]), ["q"]).goal, ("s(y)",))

    def test_words_that_deeds_move_are_taken_out_of_them(self):
        problem = Problem(["a", "t(x)"], [
            Deed("d", ["t(x)"], ["t(y)", "c"], ["t(z)", "b"], ["t(x)", "a"], 7), Deed("e", ["t(y)"], [], [], []),
            Deed("f", [], ["t(x)"], [], []),
        ], ["b"])
        less = lessened(problem, ["t"])
        self.assertEqual(less.shown(), (("a",), (("d", (), ("c",), ("b",), ("a",), 7),), ("b",), ()))

    def test_the_first_word_tells(self):
        problem = Problem(["s", "s(x)", "sx", "t(s)"], [], [])
        self.assertEqual(lessened(problem, ["s"]).start, ("sx", "t(s)"))

    def test_facts_that_dont_part_refused(self):
        for start, deeds, goal, bars in (
            (["a()"], [], [], []), ([], [], ["a("], []), ([], [], [], ["a,b"]),
            ([], [Deed("d", ["a)"], [], [], [])], [], []), ([], [Deed("d", [], ["(a)"], [], [])], [], []),
            ([], [Deed("d", [], [], ["a(b,)"], [])], [], []), ([], [Deed("d", [], [], [], ["a(b"])], [], []),
        ):
            with self.assertRaises(BadFact):
                lessened(Problem(start, deeds, goal, bars), ["q"])

    def test_costs_stay_where_still_words_go(self):
        schema = Schema("go", [("x", "p"), ("y", "p")], [("at", "x"), ("road", "x", "y")], [("shut", "y")], [("at", "y")], [("at", "x")], 3)
        places = ["a", "b", "c", "d"]
        for kept in range(64):
            rows = [row for k, row in enumerate(product("abc", "bcd")) if kept * 37 + 11 >> k & 1]
            start = [("at", "a")] + [("road", one, other) for one, other in rows] + [("shut", "c")] * (kept & 1)
            problem = grounded([schema], {place: "p" for place in places}, start, [("at", "d")])
            less = lessened(problem, still([schema]))
            self.assertEqual(true_costs(less)[less.start], true_costs(problem)[problem.start])


class TextTest(unittest.TestCase):
    def test_read(self):
        schema = read_schema("deed go(x:place,y:place) needs at(x) road(x,y) bars shut(y) adds at(y) drops at(x) late cost=3")
        self.assertIsInstance(schema, Schema)
        self.assertEqual(schema.shown(), ("go", (("x", "place"), ("y", "place")), (
            (("at", "x"), ("road", "x", "y")), (("shut", "y"),), (("at", "y"),), (("at", "x"), ("late",)),
        ), 3))

    def test_bare(self):
        for text in ("deed s", "deed s cost=1", "deed s needs", "deed s needs bars adds drops", "deed s adds cost=1"):
            self.assertEqual(read_schema(text).shown(), ("s", (), ((), (), (), ()), 1), text)

    def test_marks_stand_in_any_order(self):
        self.assertEqual(
            read_schema("deed s drops d adds a needs n bars b needs m").rows,
            ((("n",), ("m",)), (("b",),), (("a",),), (("d",),)),
        )

    def test_costs(self):
        for word, cost in (("0", 0), ("1", 1), ("9999", 9999), ("007", 7)):
            self.assertEqual(read_schema("deed s cost=" + word).cost, cost)
            self.assertEqual(read_schema("deed s(x:k) needs at(x) cost=" + word).cost, cost)
        for word in ("", "10000", "-1", "x", "1=2", "cost=1"):
            with self.assertRaises(BadText):
                read_schema("deed s adds a cost=" + word)

    def test_cost_stands_last(self):
        with self.assertRaises(BadText):
            read_schema("deed s cost=2 needs a")
        with self.assertRaises(BadFact):
            read_schema("deed s needs a cost=2 adds b")
        with self.assertRaises(BadFact):
            read_schema("deed s needs a cost=2 cost=3")
        with self.assertRaises(BadFact):
            read_schema("deed cost=5")

    def test_no_deed(self):
        for text in ("", "deed", "deed ", " deed s", "deed  s", "deed s ", "deed s  needs a", "act s", "s", "Deed s", "needs a"):
            with self.assertRaises(BadText, msg=text):
                read_schema(text)

    def test_no_bracket(self):
        for text in ("deed s(", "deed s(x:k", "deed s(x:k)y", "deed s(x:k,y:k needs a"):
            with self.assertRaises(BadText, msg=text):
                read_schema(text)

    def test_no_kind(self):
        for text in ("deed s()", "deed s(x)", "deed s(x:k,y)", "deed s(x:k:j)", "deed s(x:k,)", "deed s(,)"):
            with self.assertRaises(BadText, msg=text):
                read_schema(text)

    def test_no_mark(self):
        for text in ("deed s a", "deed s at(x) needs b", "deed s(x:k) A", "deed s need a", "deed s(x:k) cost=2 cost=3"):
            with self.assertRaises(BadText, msg=text):
                read_schema(text)

    def test_words_refused(self):
        for text in (
            "deed S", "deed s)", "deed s(x:)", "deed s(:k)", "deed s(X:k)", "deed s(x:K)", "deed (x:k)", "deed s(x:k))",
            "deed s needs A", "deed s needs at(x", "deed s needs at()", "deed s adds a,b", "deed s drops a\n", "deed s\n",
            "deed s(x:k(y)) needs a", "deed s bars a:b",
        ):
            with self.assertRaises(BadFact, msg=text):
                read_schema(text)

    def test_schemas_refused(self):
        with self.assertRaises(BadDeed):
            read_schema("deed s(x:k,x:j)")

    def test_told(self):
        self.assertEqual(told_schema(go()), (
            "deed go(m:man,x:place,y:place) needs at(m,x) road(x,y) bars shut(y) adds at(m,y) drops at(m,x) cost=2"
        ))
        self.assertEqual(told_schema(rest()), "deed rest needs night adds fresh drops tired")
        self.assertEqual(told_schema(Schema("s", [], [], [], [], [])), "deed s")
        self.assertEqual(told_schema(Schema("s", [], [], [], [], [], 0)), "deed s cost=0")
        self.assertEqual(told_schema(Schema("s", [], [], [("b",)], [], [], 9999)), "deed s bars b cost=9999")

    def test_told_and_read_again(self):
        schemas = [go(), rest(), Schema("s", [("x", "k")], [], [("needs", "x")], [("z",), ("a", "x"), ("z",)], [])]
        schemas += [Schema("s", [], [], [], [], [], cost) for cost in (0, 1, 2, 10, 9999)]
        schemas += [Schema("needs", [("adds", "bars")], [("drops", "adds")], [], [], [("cost",)])]
        for schema in schemas:
            again = read_schema(told_schema(schema))
            self.assertEqual(again.shown(), schema.shown())
            self.assertEqual(told_schema(again), told_schema(schema))

    def test_many_told_and_read_again(self):
        parts = [(), (("a",),), (("b", "x"), ("c",)), (("x", "y", "q"),)]
        for needs, bars, adds, drops in product(parts, repeat=4):
            schema = Schema("s", [("x", "k"), ("y", "j")], needs, bars, adds, drops, len(needs) + len(drops))
            self.assertEqual(read_schema(told_schema(schema)).shown(), schema.shown())

    def test_all_errors_stand_under_one(self):
        for text in ("", "deed s(", "deed s a", "deed S", "deed s(x:k,x:k)"):
            with self.assertRaises(PlanFault):
                read_schema(text)


if __name__ == "__main__":
    unittest.main()
