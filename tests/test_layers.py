"""Layers: what can't go together step by step, plans of deeds side by side, and what is refused."""

import unittest
from itertools import combinations

from planwright.deeds import Deed, are_free, plain
from planwright.errors import BadDeed, BadPlan, BadSize, NoPlan, NoSuch
from planwright.layers import Layers, check_rows, fewest_rows, first_layer, free_lots, side_by_side
from planwright.problems import Problem
from planwright.searches import all_plans, fewest
from samples import behind, chain, edges, lamp, least_steps, meets, rand_problem, subsets, walk

SEEDS = range(60)


def dinner():
    """Return a problem of a dinner that is cooked, and a present that is wrapped, while the hands are clean and it is quiet."""
    return Problem(["clean", "dirty", "quiet"], [
        Deed("cook", ["clean"], [], ["dinner"], [], 1),
        Deed("wrap", ["quiet"], [], ["present"], [], 1),
        Deed("carry", [], [], [], ["dirty", "clean"], 1),
        Deed("cart", [], [], [], ["dirty", "quiet"], 1),
    ], ["dinner", "present"], ["dirty"])


def both_about(*pairs):
    """Return a table of pairs, both ways about."""
    return {way: True for pair in pairs for way in (pair, pair[::-1])}


def layers_told(problem, count):
    """Return the (facts, pairs apart) and (names, pairs apart) of layers, worked out with sets."""
    deeds = problem.deeds
    facts, barred = set(problem.start), set()
    rows, steps = [(facts, barred)], []

    def parts(name):
        """Return what a name needs, bars, adds and drops."""
        if name.startswith("wait:"):
            return {name[5:]}, set(), {name[5:]}, set()
        deed = deeds[name]
        return set(deed.needs), set(deed.bars), set(deed.adds), set(deed.drops)

    def clear(one, other):
        """Tell whether two names go side by side."""
        needs, bars, adds, drops = parts(one)
        for_needs, for_bars, for_adds, for_drops = parts(other)
        if drops & (for_needs | for_adds) or for_drops & (needs | adds):
            return False
        if one.startswith("wait:") != other.startswith("wait:"):
            if bars & for_needs or for_bars & needs:
                return False
        elif not one.startswith("wait:") and (adds & for_bars or for_adds & bars):
            return False
        return not any((need, want) in barred for need in needs for want in for_needs)

    for _ in range(count):
        names = [name for name in deeds if parts(name)[0] <= facts and not any(
            pair in barred for pair in combinations(sorted(parts(name)[0]), 2))]
        names += ["wait:" + fact for fact in sorted(facts)]
        apart = {(one, other) for one in names for other in names if one != other and not clear(one, other)}
        steps.append((names, apart))
        facts = set().union(*[parts(name)[2] for name in names]) if names else set()
        barred = {
            (fact, other) for fact in facts for other in facts if fact != other and all(
                (one, two) in apart for one in names if fact in parts(one)[2] for two in names if other in parts(two)[2])
        }
        rows.append((facts, barred))
    return rows, steps


class LayersTest(unittest.TestCase):
    def test_fields(self):
        layers = Layers(dinner(), 0)
        self.assertEqual(layers.facts, [("clean", "dirty", "quiet")])
        self.assertEqual((layers.barred, layers.deeds, layers.apart), ([{}], [], []))
        problem = dinner()
        self.assertIs(Layers(problem, 1).problem, problem)

    def test_one_layer(self):
        layers = Layers(dinner(), 1)
        self.assertEqual(layers.facts, [("clean", "dirty", "quiet"), ("clean", "dinner", "dirty", "present", "quiet")])
        self.assertEqual(layers.deeds, [("cook", "wrap", "carry", "cart", "wait:clean", "wait:dirty", "wait:quiet")])
        self.assertEqual(layers.apart, [both_about(
            ("cook", "carry"), ("wrap", "cart"), ("carry", "wait:clean"), ("carry", "wait:dirty"), ("cart", "wait:dirty"),
            ("cart", "wait:quiet"),
        )])
        self.assertEqual(layers.barred, [{}, {}])
        self.assertEqual([type(row) for row in (layers.facts, layers.barred, layers.deeds, layers.apart)], [list] * 4)
        self.assertEqual([type(row) for row in layers.barred + layers.apart], [dict] * 3)
        self.assertEqual([type(row) for row in layers.facts + layers.deeds], [tuple] * 3)

    def test_facts_apart(self):
        problem = Problem(["out"], [plain("go", ["out"], ["in"], ["out"]), plain("light", ["in", "out"], ["on"], [])], ["on"])
        layers = Layers(problem, 2)
        self.assertEqual(layers.facts, [("out",), ("in", "out"), ("in", "out")])
        self.assertEqual(layers.barred, [{}, both_about(("in", "out")), both_about(("in", "out"))])
        self.assertEqual(layers.deeds, [("go", "wait:out"), ("go", "wait:in", "wait:out")])
        self.assertEqual(layers.apart[1], both_about(("go", "wait:in"), ("go", "wait:out"), ("wait:in", "wait:out")))

    def test_a_fact_of_two_adders_and_a_deed_of_two_facts(self):
        deeds = [plain("both", [], ["x", "y"], []), plain("z", ["s"], ["z"], ["s"]), plain("z2", ["t"], ["z"], ["t"])]
        layers = Layers(Problem(["s", "t"], deeds, []), 1)
        self.assertEqual(layers.barred[1], {})
        layers = Layers(Problem(["s"], deeds, []), 1)
        self.assertEqual(layers.barred[1], both_about(("s", "z")))

    def test_add(self):
        layers = Layers(dinner(), 0)
        for count in range(1, 15):
            self.assertIsNone(layers.add())
            self.assertEqual(len(layers.deeds), count)
            if count < 13:
                self.assertEqual(layers.shown(), Layers(dinner(), count).shown())

    def test_counts(self):
        for count in (0, 12):
            layers = Layers(lamp(), count)
            self.assertEqual([len(row) for row in (layers.facts, layers.barred, layers.deeds, layers.apart)], [
                count + 1, count + 1, count, count,
            ])
        for count in (-1, 13, 99):
            with self.assertRaises(BadSize):
                Layers(lamp(), count)

    def test_no_facts_and_no_deeds(self):
        layers = Layers(Problem([], [], []), 2)
        self.assertEqual(layers.shown(), (((), ()), ((), ()), ((), ())))
        self.assertEqual(layers.deeds, [(), ()])

    def test_shown(self):
        problem = Problem(["b", "out"], [plain("go", ["out"], ["in", "a"], ["out"])], [])
        found = Layers(problem, 1).shown()
        self.assertEqual(found, (
            (("b", "out"), ()),
            (("a", "b", "in", "out"), (("a", "out"), ("in", "out"), ("out", "a"), ("out", "in"))),
        ))
        self.assertEqual([type(row) for row in (found, found[1], found[1][0], found[1][1], found[1][1][0])], [tuple] * 5)

    def test_many_problems(self):
        for seed in SEEDS:
            problem = rand_problem(seed)
            layers = Layers(problem, 4)
            rows, steps = layers_told(problem, 4)
            self.assertEqual(layers.facts, [tuple(sorted(facts)) for facts, _ in rows], seed)
            self.assertEqual([set(table) for table in layers.barred], [barred for _, barred in rows], seed)
            self.assertEqual(layers.deeds, [tuple(names) for names, _ in steps], seed)
            self.assertEqual([set(table) for table in layers.apart], [apart for _, apart in steps], seed)
            self.assertEqual(layers.shown(), tuple(
                (tuple(sorted(facts)), tuple(sorted(barred))) for facts, barred in rows), seed)
            for place, (facts, barred) in enumerate(rows):
                told = set(problem.goal) <= facts and not any(pair in barred for pair in combinations(problem.goal, 2))
                self.assertIs(layers.holds(place), told, (seed, place))
            for count in range(1, 5):
                self.assertIs(Layers(problem, count).is_level(), rows[count] == rows[count - 1], seed)


class MethodsTest(unittest.TestCase):
    def setUp(self):
        self.layers = Layers(dinner(), 1)
        self.deed = plain("d", ["a", "b"], ["x"], [])

    def test_may(self):
        self.assertIs(self.layers.may(self.deed, ("a", "b"), {}), True)
        self.assertIs(self.layers.may(self.deed, ["a", "c"], {}), False)
        self.assertIs(self.layers.may(self.deed, ("a", "b"), both_about(("a", "b"))), False)
        self.assertIs(self.layers.may(self.deed, ("a", "b"), both_about(("a", "c"))), True)
        self.assertIs(self.layers.may(plain("d", [], [], []), (), {}), True)
        # What a deed bars isn't asked.
        self.assertIs(self.layers.may(Deed("d", [], ["a"], [], []), ("a",), {}), True)

    def test_go(self):
        go = self.layers.go
        self.assertIs(go("cook", "wrap", {}), True)
        self.assertIs(go("cook", "carry", {}), False)
        self.assertIs(go("cook", "wrap", both_about(("clean", "quiet"))), False)
        self.assertIs(go("wrap", "cook", both_about(("clean", "quiet"))), False)
        self.assertIs(go("wait:clean", "wrap", both_about(("clean", "quiet"))), False)
        self.assertIs(go("wait:a", "wait:b", {}), True)
        self.assertIs(go("wait:a", "wait:b", both_about(("a", "b"))), False)

    def test_needs_and_adds(self):
        self.assertEqual(self.layers.needs_of("cook"), ("clean",))
        self.assertEqual(self.layers.adds_of("cook"), ("dinner",))
        self.assertEqual(self.layers.needs_of("wait:x"), ("x",))
        self.assertEqual(self.layers.adds_of("wait:x"), ("x",))
        self.assertEqual(self.layers.adds_of("carry"), ())
        for word in ("cook", "wait:x"):
            self.assertEqual([type(self.layers.needs_of(word)), type(self.layers.adds_of(word))], [tuple] * 2)

    def test_are_free(self):
        problem = Problem([], [
            Deed("d", ["n"], ["b"], ["a"], ["x"]), Deed("on", [], [], ["x"], []), Deed("off", [], [], [], ["n"]),
            Deed("bar", [], ["a"], [], []), Deed("add", [], [], ["b"], []), Deed("else", ["a"], ["q"], ["r"], ["s"]),
        ], [])
        layers = Layers(problem, 0)
        for one, other, told in (
            ("d", "on", False), ("d", "off", False), ("d", "bar", False), ("d", "add", False), ("d", "else", True),
            ("d", "wait:x", False), ("d", "wait:b", False), ("d", "wait:n", True), ("d", "wait:a", True),
            ("d", "wait:q", True), ("wait:a", "wait:b", True), ("wait:a", "wait:a", True), ("off", "wait:n", False),
        ):
            self.assertIs(layers.are_free(one, other), told, (one, other))
            self.assertIs(layers.are_free(other, one), told, (one, other))

    def test_no_such_name(self):
        for asked in (
            lambda: self.layers.go("no", "cook", {}), lambda: self.layers.go("cook", "no", {}),
            lambda: self.layers.go("wait:x", "no", {}), lambda: self.layers.are_free("no", "wait:x"),
            lambda: self.layers.are_free("cook", "no"), lambda: self.layers.needs_of("no"), lambda: self.layers.adds_of(""),
            lambda: self.layers.pairs_behind(("a", "b"), ("no",), {}),
        ):
            with self.assertRaises(NoSuch):
                asked()

    def test_pairs_behind(self):
        names = ("cook", "wrap", "wait:clean", "wait:dinner")
        found = self.layers.pairs_behind(("clean", "dinner", "present"), names, both_about(("cook", "wrap"), ("wait:clean", "cook")))
        self.assertEqual(found, {})
        apart = both_about(("cook", "wrap"), ("wait:dinner", "wrap"), ("wait:clean", "cook"))
        found = self.layers.pairs_behind(("clean", "dinner", "present"), list(names), apart)
        self.assertEqual(found, both_about(("dinner", "present")))
        self.assertIs(type(found), dict)

    def test_holds(self):
        layers = Layers(dinner(), 2)
        self.assertEqual([layers.holds(place) for place in range(3)], [False, True, True])
        self.assertIs(Layers(Problem([], [], []), 0).holds(0), True)
        problem = Problem(["out"], [plain("go", ["out"], ["in"], ["out"])], ["in", "out"])
        self.assertEqual([Layers(problem, 3).holds(place) for place in range(4)], [False] * 4)
        for place in (-1, 3, 99):
            with self.assertRaises(BadSize):
                layers.holds(place)

    def test_is_level(self):
        self.assertIs(Layers(Problem([], [], []), 0).is_level(), False)
        self.assertIs(Layers(Problem([], [], []), 1).is_level(), True)
        self.assertIs(Layers(chain(4), 3).is_level(), False)
        # All facts are there behind three layers, but pairs of them go on changing.
        self.assertEqual([Layers(chain(4), count).is_level() for count in range(3, 6)], [False, True, True])
        two = Problem(["a", "b"], [plain("ab", ["a"], ["x"], ["a"]), plain("ba", ["b"], ["y"], ["b"]), plain("z", ["x", "y"], ["z"], [])], [])
        self.assertEqual([Layers(two, count).is_level() for count in range(5)], [False, False, False, True, True])


class FirstLayerTest(unittest.TestCase):
    def test_first_layer(self):
        self.assertEqual(first_layer(dinner()), 1)
        self.assertEqual(first_layer(chain(6)), 5)
        self.assertEqual(first_layer(lamp()), 2)

    def test_a_goal_at_the_start(self):
        self.assertEqual(first_layer(Problem(["a"], [], ["a"])), 0)
        self.assertEqual(first_layer(Problem(["a"], [], ["a"]), 0), 0)
        self.assertEqual(first_layer(Problem(["a"], [], [], ["a"])), 0)

    def test_none_where_they_come_to_stay(self):
        self.assertIsNone(first_layer(Problem([], [], ["a"])))
        problem = Problem(["out"], [plain("go", ["out"], ["in"], ["out"])], ["in", "out"])
        self.assertIsNone(first_layer(problem))
        self.assertIsNone(first_layer(problem, 2))
        with self.assertRaises(BadSize):
            first_layer(problem, 1)
        self.assertIsNone(first_layer(walk([("ab", "a", "b", 1)], "a", "c"), 2))

    def test_most(self):
        self.assertEqual(first_layer(chain(6), 5), 5)
        for most in (0, 4):
            with self.assertRaises(BadSize):
                first_layer(chain(6), most)
        self.assertEqual(first_layer(chain(13)), 12)
        with self.assertRaises(BadSize):
            first_layer(chain(14))
        self.assertEqual(first_layer(chain(14), most=13), 13)

    def test_never_behind_the_fewest_rows(self):
        for seed in SEEDS:
            problem = rand_problem(seed)
            if least_steps(problem) is not None:
                self.assertLessEqual(first_layer(problem), least_steps(problem), seed)


class CheckRowsTest(unittest.TestCase):
    def test_rows_side_by_side(self):
        self.assertEqual(check_rows(dinner(), (("cook", "wrap"), ("carry",))), 3)
        self.assertEqual(check_rows(lamp(), [["go"], ["light"]]), 2)
        self.assertEqual(check_rows(dinner(), [["wrap", "cook"], [], ["cart", "cook"]]), 4)
        self.assertEqual(check_rows(Problem([], [], []), ()), 0)
        self.assertEqual(check_rows(Problem([], [], []), [[]]), 0)

    def test_a_row_that_is_not_free(self):
        for row in (("cook", "carry"), ("carry", "cook"), ("wrap", "cook", "cart"), ("cart", "cook", "wrap")):
            with self.assertRaises(BadPlan):
                check_rows(dinner(), [row])

    def test_a_row_that_is_not_free_comes_before_one_that_can_not_be_done(self):
        problem = Problem([], [plain("a", ["x"], [], ["y"]), plain("b", ["y"], [], [])], [])
        with self.assertRaises(BadPlan):
            check_rows(problem, [("a", "b")])
        with self.assertRaises(BadDeed):
            check_rows(problem, [("a",), ("a", "b")])

    def test_a_row_twice_the_same_name(self):
        with self.assertRaises(BadPlan):
            check_rows(walk([("ab", "a", "b", 1)], "a", "b"), [("ab", "ab")])
        add = Problem([], [plain("x", [], ["x"], [])], ["x"])
        self.assertEqual(check_rows(add, [("x", "x")]), 2)
        self.assertEqual(check_rows(add, [("x",), ("x",)]), 2)

    def test_one_that_can_not_be_done(self):
        for rows in ([("light",)], [("go",), ("go",)], [("fly",)], [("go",), ("light", "fly")]):
            with self.assertRaises(BadDeed):
                check_rows(lamp(), rows)

    def test_none_waits_for_what_another_one_of_its_row_gives(self):
        problem = Problem([], [plain("x", [], ["x"], []), plain("y", ["x"], ["y"], [])], ["y"])
        self.assertEqual(check_rows(problem, [("x",), ("y",)]), 2)
        for row in (("x", "y"), ("y", "x")):
            with self.assertRaises(BadDeed):
                check_rows(problem, [row])

    def test_the_goal_is_not_come_to(self):
        for rows in ((), [("go",)], [("go",), ("light",), ("break",)]):
            with self.assertRaises(BadPlan):
                check_rows(lamp(), rows)
        with self.assertRaises(BadPlan):
            check_rows(dinner(), [("cook", "wrap")])

    def test_no_such_name(self):
        for rows in ([("no",)], [("cook", "carry", "no")], [("no", "cook", "carry")], [("cook",), ("no",)]):
            with self.assertRaises(NoSuch):
                check_rows(dinner(), rows)
        # Rows are checked one behind another.
        with self.assertRaises(BadPlan):
            check_rows(dinner(), [("cook", "carry"), ("no",)])
        with self.assertRaises(BadDeed):
            check_rows(lamp(), [("light",), ("no",)])

    def test_nothing_is_changed(self):
        problem, rows = dinner(), [["cook", "carry"]]
        shown = problem.shown()
        with self.assertRaises(BadPlan):
            check_rows(problem, rows)
        self.assertEqual((rows, problem.shown()), ([["cook", "carry"]], shown))


class SideBySideTest(unittest.TestCase):
    def test_rows_of_a_plan(self):
        self.assertEqual(side_by_side(dinner(), ("cook", "wrap", "carry")), (("cook", "wrap"), ("carry",)))
        self.assertEqual(side_by_side(dinner(), ["wrap", "cart", "cook"]), (("wrap", "cook"), ("cart",)))
        self.assertEqual(side_by_side(lamp(), ("go", "light")), (("go",), ("light",)))
        found = side_by_side(dinner(), ["cook", "wrap", "carry"])
        self.assertEqual([type(row) for row in (found, found[0])], [tuple] * 2)
        self.assertEqual(side_by_side(Problem([], [], []), ()), ())

    def test_each_as_early_as_can_be(self):
        deeds = [plain("a", [], ["x"], []), plain("b", ["x"], ["y"], []), plain("c", ["y"], ["z"], []), plain("d", [], ["w"], []),
                 plain("e", ["w"], ["v"], [])]
        problem = Problem([], deeds, ["z"])
        self.assertEqual(side_by_side(problem, ("a", "b", "c", "d", "e")), (("a", "d"), ("b", "e"), ("c",)))
        self.assertEqual(side_by_side(problem, ("d", "a", "e", "b", "c")), (("d", "a"), ("e", "b"), ("c",)))

    def test_behind_the_last_that_it_can_not_be_swapped_with(self):
        deeds = [plain("a", [], ["x"], []), plain("b", ["x"], ["y"], []), plain("c", [], ["w"], ["x"])]
        problem = Problem([], deeds, ["w", "y"])
        self.assertEqual(side_by_side(problem, ("a", "b", "c")), (("a",), ("b",), ("c",)))

    def test_the_same_name_comes_behind(self):
        problem = Problem([], [plain("x", [], ["x"], []), plain("y", [], ["y"], [])], ["x"])
        self.assertEqual(side_by_side(problem, ("x", "x", "y", "x")), (("x", "y"), ("x",), ("x",)))

    def test_plans_that_are_refused(self):
        for plan, error in ((("go",), BadPlan), ((), BadPlan), (("light",), BadDeed), (("go", "no"), NoSuch)):
            with self.assertRaises(error):
                side_by_side(lamp(), plan)

    def test_many_plans(self):
        for seed in range(40):
            problem = rand_problem(seed)
            for plan in all_plans(problem, 4)[:30]:
                rows = side_by_side(problem, plan)
                self.assertEqual(sorted(name for row in rows for name in row), sorted(plan), seed)
                self.assertEqual(check_rows(problem, rows), len(plan), seed)
                self.assertFalse(() in rows)


class FewestRowsTest(unittest.TestCase):
    def test_fewest_rows(self):
        # The first state of the first row from which one more row comes to the goal.
        self.assertEqual(fewest_rows(dinner()), (("cook",), ("wrap", "carry")))
        self.assertEqual(fewest_rows(lamp()), (("go",), ("light",)))
        found = fewest_rows(lamp())
        self.assertEqual([type(row) for row in (found, found[0])], [tuple] * 2)

    def test_a_goal_at_the_start(self):
        self.assertEqual(fewest_rows(Problem(["a"], [], ["a"])), ())
        self.assertEqual(fewest_rows(Problem(["a"], [], ["a"]), 0), ())

    def test_no_deed_stands_in_a_row_for_nothing(self):
        for names in (("a", "b", "c"), ("c", "b", "a"), ("b", "a", "c")):
            problem = Problem([], [plain(name, [], [name + "1"], []) for name in names], ["b1"])
            self.assertEqual(fewest_rows(problem), (("b",),))

    def test_deeds_stand_as_told(self):
        problem = Problem([], [plain(name, [], [name + "1"], []) for name in "cab"], ["a1", "b1", "c1"])
        self.assertEqual(fewest_rows(problem), (("c", "a", "b"),))

    def test_counts(self):
        self.assertEqual(len(fewest_rows(chain(9), 8)), 8)
        self.assertEqual(len(fewest_rows(chain(7))), 6)
        for problem, most in ((chain(8), 6), (chain(3), 1), (chain(2), 0), (walk([("ab", "a", "b", 1)], "a", "c"), 8)):
            with self.assertRaises(NoPlan):
                fewest_rows(problem, most)
        with self.assertRaises(NoPlan):
            fewest_rows(chain(8))
        for most in (-1, 9, 50):
            with self.assertRaises(BadSize):
                fewest_rows(Problem([], [], []), most)

    def test_many_problems(self):
        shorter = 0
        for seed in SEEDS:
            problem = rand_problem(seed)
            count = self.rows_told(problem)
            if count is None:
                with self.assertRaises(NoPlan):
                    fewest_rows(problem)
                continue
            rows = fewest_rows(problem)
            self.assertEqual(len(rows), count, seed)
            check_rows(problem, rows)
            self.assertTrue(all(rows))
            self.assertLessEqual(first_layer(problem), count, seed)
            self.assertLessEqual(count, len(side_by_side(problem, fewest(problem))), seed)
            shorter += count < least_steps(problem)
        self.assertGreater(shorter, 1)

    def rows_told(self, problem):
        """Return how many rows there must be at least, None for more than six."""
        states = {problem.start}
        for count in range(7):
            if any(meets(problem, state) for state in states):
                return count
            found = set(states)
            for state in states:
                can = [deed for deed in problem.deeds.values() if behind(state, deed) is not None]
                for lot in subsets(can):
                    if all(are_free(one, other) for one, other in combinations(lot, 2)):
                        there = set(state)
                        for deed in lot:
                            there = (there - set(deed.drops)) | set(deed.adds)
                        found.add(tuple(sorted(there)))
            states = found
        return None


class FreeLotsTest(unittest.TestCase):
    def names(self, problem, deeds):
        return [tuple(deed.name for deed in lot) for lot in free_lots(problem, deeds)]

    def test_free_lots(self):
        problem = dinner()
        deeds = problem.choices(problem.start)
        self.assertEqual(self.names(problem, deeds), [
            ("cook",), ("wrap",), ("cook", "wrap"), ("carry",), ("wrap", "carry"), ("cart",), ("cook", "cart"), ("carry", "cart"),
        ])
        self.assertEqual(self.names(problem, list(deeds)[::-1][2:]), [("wrap",), ("cook",), ("wrap", "cook")])
        self.assertEqual(free_lots(problem, ()), [])
        found = free_lots(problem, deeds[:1])
        self.assertEqual(found, [(problem.deeds["cook"],)])
        self.assertEqual([type(found), type(found[0])], [list, tuple])

    def test_any_two_are_free(self):
        for seed in range(30):
            problem = rand_problem(seed)
            for state in list(edges(problem))[:4]:
                deeds = problem.choices(state)
                told = [lot for lot in subsets(deeds) if lot and all(are_free(one, other) for one, other in combinations(lot, 2))]
                self.assertEqual(sorted(self.names(problem, deeds)), sorted(tuple(deed.name for deed in lot) for lot in told))


if __name__ == "__main__":
    unittest.main()
