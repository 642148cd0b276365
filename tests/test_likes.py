"""Likes: words exchanged, tables by which a problem stays, like states taken as one, and what is refused."""

import random
import unittest
from itertools import permutations, product

from planwright.deeds import Deed, plain
from planwright.errors import BadDeed, BadFact, BadPaper, BadPlan, BadSize, NoPlan
from planwright.likes import (
    cheapest_by_likes, exchanged, exchanged_deed, exchanged_plan, exchanged_problem, exchanged_state, least_like, likes_of,
    lots_of_like, orders_of, stays, tables_on, way_by,
)
from planwright.problems import Problem, comes
from planwright.searches import cheapest
from samples import chain, edges, kinds, lamp, meets, true_costs, wheels

WRONG_FACTS = ("", "A", "at(", "at(x", "at()", "at)", "at(x)y", "a,b", "at(x,)", "(x)")
SWAP = {"a": "b", "b": "a"}


def balls(names, cost=1):
    """Return a problem of balls, all alike, that are lifted and put in a box one by one."""
    deeds = []
    for name in names:
        ball = "(" + name + ")"
        deeds.append(Deed("lift" + ball, ["floor" + ball], ["full"], ["held" + ball, "full"], ["floor" + ball], cost))
        deeds.append(Deed("drop" + ball, ["held" + ball], [], ["box" + ball], ["held" + ball, "full"]))
    return Problem(["floor(" + name + ")" for name in names], deeds, ["box(" + name + ")" for name in names])


def rand_alike(seed):
    """Return one of many problems that stay where the words a, b and c are put in each other's places."""
    rand = random.Random(seed)
    facts = ["p(x)", "q(x)", "r(x,y)", "s"]
    deeds = {}
    for place in range(5):
        cost = rand.choice([0, 1, 1, 2, 4])
        parts = [rand.sample(facts, rand.randint(0, 2)) for _ in range(4)]
        parts[1] = [fact for fact in parts[1] if fact not in parts[0]][:1]
        for row in permutations("abc", 2):
            made = [[told(fact, row) for fact in part] for part in parts]
            name = "d%d(%s,%s)" % ((place,) + row)
            deeds[name] = Deed(name, made[0], made[1], made[2], made[3], cost)
    start = rand.sample(["p(a)", "p(b)", "q(c)", "q(a)", "s"], 2)
    wanted = [["q(x)"], ["p(x)"], ["r(x,y)"], ["s"]][rand.randint(0, 3)]
    goal = [told(fact, row) for row in permutations("abc", 2) for fact in wanted]
    return Problem(start, list(deeds.values()), goal, ["s"] if rand.random() < 0.2 and wanted != ["s"] else [])


def alike_samples(count):
    """Return problems that stay where words are put in each other's places, with some states, but not too many."""
    return [problem for problem in map(rand_alike, range(count)) if 3 < len(edges(problem)) < 90]


def told(fact, row):
    """Return a fact with the words of a row for x and y."""
    return fact.replace("x", row[0].upper()).replace("y", row[1].upper()).lower()


class ExchangedTest(unittest.TestCase):
    def test_exchanged(self):
        for fact, table, after in (
            ("at(a)", SWAP, "at(b)"), ("at(a,b,c)", SWAP, "at(b,a,c)"), ("a(a)", SWAP, "a(b)"), ("a", SWAP, "a"),
            ("at(aa)", SWAP, "at(aa)"), ("at(a)", {}, "at(a)"), ("at(a)", {"a": "x-1"}, "at(x-1)"),
        ):
            self.assertEqual(exchanged(fact, table), after)
        for fact in WRONG_FACTS:
            with self.assertRaises(BadFact):
                exchanged(fact, SWAP)
        with self.assertRaises(BadFact):
            exchanged("at(a)", {"a": "A"})

    def test_exchanged_state(self):
        self.assertEqual(exchanged_state(["b(a)", "a", "a(b)"], SWAP), ("a", "a(a)", "b(b)"))
        self.assertEqual(exchanged_state(("at(a)", "at(b)"), SWAP), ("at(a)", "at(b)"))
        self.assertEqual(exchanged_state(("at(a)", "at(b)"), {"a": "b"}), ("at(b)",))
        self.assertEqual([exchanged_state((), SWAP), type(exchanged_state(["a"], {}))], [(), tuple])
        for fact in WRONG_FACTS:
            with self.assertRaises(BadFact):
                exchanged_state(["a", fact], SWAP)

    def test_exchanged_deed(self):
        deed = Deed("go(a,b)", ["at(a)"], ["shut(b)"], ["at(b)", "a(a)"], ["at(a)"], 4)
        found = exchanged_deed(deed, SWAP)
        self.assertIsInstance(found, Deed)
        self.assertEqual(found.shown(), ("go(b,a)", ("at(b)",), ("shut(a)",), ("a(b)", "at(a)"), ("at(b)",), 4))
        self.assertEqual(deed.shown(), exchanged_deed(found, SWAP).shown())
        with self.assertRaises(BadDeed):
            exchanged_deed(Deed("d", ["at(a)"], ["at(b)"], [], []), {"a": "b"})
        for place in range(4):
            parts = [[], [], [], []]
            parts[place] = ["at(a,"]
            with self.assertRaises(BadFact):
                exchanged_deed(Deed("d", *parts), SWAP)
        with self.assertRaises(BadFact):
            exchanged_deed(Deed("go,a", [], [], [], []), SWAP)

    def test_exchanged_problem(self):
        problem = Problem(["at(a)"], [plain("go(a,b)", ["at(a)"], ["at(b)"], [], 3)], ["at(b)"], ["wet(b)"])
        found = exchanged_problem(problem, SWAP)
        self.assertIsInstance(found, Problem)
        self.assertEqual(found.shown(), (
            ("at(b)",), (("go(b,a)", ("at(b)",), (), ("at(a)",), (), 3),), ("at(a)",), ("wet(a)",),
        ))
        self.assertEqual(problem.shown(), exchanged_problem(found, SWAP).shown())
        with self.assertRaises(BadDeed):
            exchanged_problem(Problem([], [plain("d(a)", [], [], []), plain("d(b)", [], [], [])], []), {"a": "b"})
        with self.assertRaises(BadPlan):
            exchanged_problem(Problem([], [], ["at(a)"], ["at(b)"]), {"a": "b"})
        for parts in ((["at("], [], [], []), ([], [], ["at("], []), ([], [], [], ["at("])):
            with self.assertRaises(BadFact):
                exchanged_problem(Problem(*parts), SWAP)

    def test_exchanged_plan(self):
        self.assertEqual(exchanged_plan(["go(a,b)", "a", "stay(c,a)"], SWAP), ("go(b,a)", "a", "stay(c,b)"))
        self.assertEqual(exchanged_plan((), SWAP), ())
        self.assertEqual(type(exchanged_plan(["go"], {})), tuple)
        for name in WRONG_FACTS:
            with self.assertRaises(BadFact):
                exchanged_plan(["go(a)", name], SWAP)

    def test_plans_stay_plans(self):
        problem = balls("abc")
        plan = cheapest(problem)[1]
        for table in tables_on("abc"):
            self.assertTrue(comes(problem, exchanged_plan(plan, table)))
        problem = Problem(["at(a)"], [plain("go(a,b)", ["at(a)"], ["at(b)"], ["at(a)"])], ["at(b)"])
        self.assertTrue(comes(exchanged_problem(problem, SWAP), exchanged_plan(("go(a,b)",), SWAP)))


class StaysTest(unittest.TestCase):
    def test_stays(self):
        for table in list(tables_on("abc")) + [{}, {"q": "z", "z": "q"}, {"a": "a"}, {"b": "a", "a": "b"}]:
            self.assertIs(stays(balls("abc"), table), True)

    def test_what_doesnt_only_exchange_words(self):
        for table in ({"a": "b"}, {"a": "b", "b": "b"}, {"a": "b", "b": "c"}, {"a": "q", "b": "a"}, {"q": "z"}):
            self.assertIs(stays(balls("abc"), table), False)

    def test_what_tells_words_apart(self):
        deeds = [plain("d(a)", ["p(a)"], ["q(a)"], ["p(a)"]), plain("d(b)", ["p(b)"], ["q(b)"], ["p(b)"])]
        self.assertIs(stays(Problem([], deeds, ["q(a)", "q(b)"], ["z(a)", "z(b)"]), SWAP), True)
        self.assertIs(stays(Problem(["p(a)"], deeds[::-1], []), SWAP), True)
        self.assertIs(stays(Problem([], deeds, ["q(a)"]), SWAP), False)
        self.assertIs(stays(Problem([], deeds, [], ["q(b)"]), SWAP), False)
        self.assertIs(stays(Problem([], deeds[:1], []), SWAP), False)
        for other in (
            plain("d(b)", ["p(b)"], ["q(b)"], ["p(b)"], 2), plain("e(b)", ["p(b)"], ["q(b)"], ["p(b)"]),
            plain("d(b)", ["p(a)"], ["q(b)"], ["p(b)"]), plain("d(b)", ["p(b)"], ["q(a)"], ["p(b)"]),
            plain("d(b)", ["p(b)"], ["q(b)"], []), Deed("d(b)", ["p(b)"], ["z"], ["q(b)"], ["p(b)"]),
        ):
            self.assertIs(stays(Problem([], [deeds[0], other], []), SWAP), False)

    def test_the_start_isnt_asked(self):
        self.assertIs(stays(Problem(["q(a)", "p"], list(balls("ab").deeds.values()), []), SWAP), True)

    def test_refused(self):
        for problem in (
            Problem([], [], ["at("]), Problem([], [], [], ["at("]), Problem([], [plain("d,e", [], [], [])], []),
            Problem([], [plain("d", ["at("], [], [])], []),
        ):
            for table in ({}, SWAP):
                with self.assertRaises(BadFact):
                    stays(problem, table)
            with self.assertRaises(BadFact):
                likes_of(problem, ["a"])

    def test_tables_on(self):
        self.assertEqual(tables_on(["b", "a"]), ({"a": "a", "b": "b"}, {"a": "b", "b": "a"}))
        self.assertEqual(tables_on([]), ({},))
        self.assertEqual(tables_on(("a", "a")), ({"a": "a"},))
        found = tables_on("cab")
        self.assertEqual([tuple(table.items()) for table in found], [tuple(zip("abc", row)) for row in permutations("abc")])
        self.assertEqual([type(found), type(found[0])], [tuple, dict])

    def test_five_words_and_six(self):
        self.assertEqual(len(tables_on("abcde")), 120)
        self.assertEqual(len(tables_on(["a", "b", "c", "d", "e", "a", "b"])), 120)
        for asked in (tables_on, lambda words: likes_of(lamp(), words)):
            for words in ("abcdef", "abcdefg"):
                with self.assertRaises(BadSize):
                    asked(words)
            for word in ("", "A", "a b"):
                with self.assertRaises(BadFact):
                    asked(["a", word])

    def test_orders_of(self):
        self.assertEqual(orders_of([]), [()])
        self.assertEqual(orders_of(["b", "a"]), [("b", "a"), ("a", "b")])
        for row in ("cab", (3, 1, 2, 1), [0, 1, 2, 3, 4]):
            self.assertEqual(orders_of(row), list(permutations(row)))
        self.assertEqual(kinds(orders_of(["x"])), kinds([("x",)]))

    def test_likes_of(self):
        self.assertEqual(likes_of(balls("abc"), "abc"), tables_on("abc"))
        problem = balls("abc")
        other = Problem([], list(problem.deeds.values()), ["box(a)"])
        self.assertEqual(likes_of(other, ["c", "b", "a"]), ({"a": "a", "b": "b", "c": "c"}, {"a": "a", "b": "c", "c": "b"}))
        self.assertEqual(likes_of(other, []), ({},))
        self.assertEqual(type(likes_of(other, [])), tuple)


class LikeTest(unittest.TestCase):
    def test_least_like(self):
        tables = tables_on("abc")
        self.assertEqual(least_like(["held(c)", "box(b)"], tables), ("box(a)", "held(b)"))
        self.assertEqual(least_like(("box(a)", "held(b)"), tables), ("box(a)", "held(b)"))
        # The state itself is asked too, though no table leaves it.
        self.assertEqual(least_like(["at(a)"], [SWAP]), ("at(a)",))
        self.assertEqual(least_like(["at(b)", "x"], []), ("at(b)", "x"))
        self.assertEqual(least_like(["x", "at(b)", "x"], [SWAP]), ("at(a)", "x"))
        self.assertEqual(type(least_like(["x"], [])), tuple)
        for fact in WRONG_FACTS:
            with self.assertRaises(BadFact):
                least_like(["a", fact], tables)
        for fact in ("", "A"):
            with self.assertRaises(BadFact):
                least_like([fact], [])

    def test_lots_of_like(self):
        tables = tables_on("abc")
        states = [["held(b)"], ("box(a)", "held(c)"), ("held(a)",), ["box(b)", "held(a)"], ("x",)]
        self.assertEqual(lots_of_like(states, tables), (
            (("box(a)", "held(c)"), ("box(b)", "held(a)")), (("held(a)",), ("held(b)",)), (("x",),),
        ))
        self.assertEqual(lots_of_like(states[:3], []), ((("box(a)", "held(c)"),), (("held(a)",),), (("held(b)",),)))
        self.assertEqual(lots_of_like([], tables), ())
        self.assertEqual(kinds(lots_of_like([["x"]], tables)), kinds(((("x",),),)))
        for fact in WRONG_FACTS:
            with self.assertRaises(BadFact):
                lots_of_like([["a"], [fact]], tables)

    def test_lots_are_what_tables_make_of_each_other(self):
        problem, tables = balls("abc"), tables_on("abc")
        states = sorted(edges(problem))
        lots = lots_of_like(states, tables)
        self.assertEqual(sorted(state for lot in lots for state in lot), states)
        self.assertEqual([lot[0] for lot in lots], sorted(lot[0] for lot in lots))
        for lot in lots:
            made = {tuple(sorted(told_again(fact, table) for fact in lot[0])) for table in tables}
            self.assertEqual(lot, tuple(sorted(made)))


def told_again(fact, table):
    """Return a fact with the word in its brackets exchanged."""
    head, bracket, rest = fact.partition("(")
    return head + bracket + table.get(rest[:-1], rest[:-1]) + rest[-1:]


class SearchTest(unittest.TestCase):
    def test_like_states_are_taken_as_one(self):
        problem = balls("abcd")
        found = cheapest_by_likes(problem, tables_on("abcd"))
        self.assertEqual(found[:2], (8, cheapest(problem)[1]))
        # Four balls, none held or one: a row of states on the way.
        self.assertEqual(found[2], 9)
        self.assertEqual(kinds(found), kinds((8, ("x",) * 8, 9)))
        self.assertEqual(cheapest_by_likes(problem, [{}])[2], len(edges(problem)))

    def test_tables_that_exchange_nothing(self):
        for tables in ([], [{}], ({"a": "a"},)):
            for problem in (lamp(), chain(9), wheels((2, 3), ["w0-1", "w1-2"])):
                found = cheapest_by_likes(problem, tables)
                self.assertEqual(found[:2], cheapest(problem))
        self.assertEqual(cheapest_by_likes(chain(9), [])[2], 9)

    def test_the_start_is_a_goal(self):
        self.assertEqual(cheapest_by_likes(Problem(["a"], [plain("d", [], ["b"], [])], ["a"]), []), (0, (), 1))

    def test_the_plan_can_be_done(self):
        # Ball b is nearer: the plan must lift it, though the state is like that with a lifted.
        problem = balls("ab")
        start = Problem(["floor(b)", "box(a)"], list(problem.deeds.values()), problem.goal)
        self.assertEqual(cheapest_by_likes(start, [SWAP]), (2, ("lift(b)", "drop(b)"), 3))

    def test_no_plan(self):
        problem = balls("ab")
        never = Problem(problem.start, list(problem.deeds.values()), ["gone"])
        with self.assertRaises(NoPlan):
            cheapest_by_likes(never, [SWAP])
        with self.assertRaises(NoPlan):
            cheapest_by_likes(never, [SWAP], 5)
        with self.assertRaises(BadSize):
            cheapest_by_likes(never, [SWAP], 4)

    def test_as_many_states_as_most_and_one_more(self):
        problem = balls("abcd")
        self.assertEqual(cheapest_by_likes(problem, tables_on("abcd"), 9)[0], 8)
        for most in (1, 5, 8):
            with self.assertRaises(BadSize):
                cheapest_by_likes(problem, tables_on("abcd"), most)
        self.assertEqual(cheapest_by_likes(wheels((2, 2), ["w0-1", "w1-1"]), [], 4)[0], 2)
        self.assertEqual(cheapest_by_likes(chain(500), [])[0], 499)
        with self.assertRaises(BadSize):
            cheapest_by_likes(chain(501), [])

    def test_tables_by_which_it_doesnt_stay(self):
        problem = balls("abc")
        for table in ({"a": "b"}, {"a": "q", "q": "a"}):
            for tables in ([table], [SWAP, table], (table, SWAP)):
                with self.assertRaises(BadPaper):
                    cheapest_by_likes(problem, tables)
        with self.assertRaises(BadFact):
            cheapest_by_likes(Problem([], [], ["at("]), [{}])
        with self.assertRaises(BadFact):
            cheapest_by_likes(Problem(["at("], [], []), [SWAP])

    def test_many(self):
        found, fewer = 0, 0
        for problem in alike_samples(100):
            tables = likes_of(problem, "abc")
            self.assertEqual(len(tables), 6)
            cost = true_costs(problem)[problem.start]
            if cost is None:
                with self.assertRaises(NoPlan):
                    cheapest_by_likes(problem, tables)
                continue
            found += cost > 0
            least, plan, taken = cheapest_by_likes(problem, tables)
            self.assertEqual([least, problem.check(plan)], [cost, cost])
            alone = cheapest_by_likes(problem, [])
            self.assertEqual(alone[0], cost)
            self.assertLessEqual(taken, alone[2])
            fewer += taken < alone[2]
        self.assertTrue(found > 10 and fewer > 5, (found, fewer))

    def test_heights_of_like_states_are_the_same(self):
        for problem in alike_samples(40):
            costs = true_costs(problem)
            for lot in lots_of_like(list(costs), likes_of(problem, "abc")):
                self.assertEqual(len({costs[state] for state in lot}), 1)
                self.assertEqual(len({meets(problem, state) for state in lot}), 1)

    def test_way_by(self):
        froms = {"c": ("bc", "b"), "b": ("ab", "a"), "a": None, ("x",): ("xa", "a")}
        self.assertEqual([way_by(froms, key) for key in ("a", "b", "c", ("x",))], [(), ("ab",), ("ab", "bc"), ("xa",)])
        self.assertEqual(type(way_by(froms, "a")), tuple)
        self.assertEqual(len(froms), 4)

    def test_nothing_handed_in_is_changed(self):
        table = dict(SWAP)
        tables = [table]
        cheapest_by_likes(balls("ab"), tables)
        self.assertEqual((tables, list(table.items())), ([SWAP], [("a", "b"), ("b", "a")]))
        for one, other in product((SWAP, {}), repeat=2):
            self.assertEqual(cheapest_by_likes(balls("ab"), (one, other))[0], 4)


if __name__ == "__main__":
    unittest.main()
