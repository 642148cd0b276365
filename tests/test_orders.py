"""Orders: pairs that must stand so, all ways to do a plan, what each need hangs on, and what is refused."""

import random
import unittest
from itertools import permutations

from planwright.deeds import Deed, may_swap, plain
from planwright.errors import BadDeed, BadPlan, BadSize, NoSuch
from planwright.orders import (
    Order, checks, closed, depth_of, leads, lines, longest, loosened, looseness, loosest, short_pairs,
)
from planwright.problems import Problem, comes
from planwright.searches import all_plans
from samples import lamp, rand_problem, walk

SEEDS = range(40)


def shoes():
    """Return a problem of two socks and two shoes, each shoe behind its sock."""
    return Problem(["bare"], [
        plain("sock-l", [], ["sl"], []), plain("sock-r", [], ["sr"], []),
        plain("shoe-l", ["sl"], ["l"], []), plain("shoe-r", ["sr"], ["r"], []),
        Deed("kick", [], [], [], ["l", "sl"]), Deed("run", ["l", "r"], ["bare"], ["far"], []), plain("dress", [], [], ["bare"]),
    ], ["l", "r"])


PLAN = ("sock-l", "sock-r", "shoe-l", "shoe-r")


def ways_told(count, pairs):
    """Return all orders of places in which pairs stand."""
    return [way for way in permutations(range(count)) if all(way.index(one) < way.index(other) for one, other in pairs)]


def closed_told(count, pairs):
    """Return pairs and all that follow, None for a ring."""
    found = set(pairs)
    for _ in range(count):
        found |= {(one, last) for one, other in found for first, last in found if other == first}
    return None if any(one == other for one, other in found) else found


def some_pairs(seed):
    """Return a count of places and some pairs of them, the same for the same seed."""
    rand = random.Random(seed)
    count = rand.randint(1, 6)
    places = rand.sample(range(count), count)
    pairs = [(places[k], places[j]) for j in range(count) for k in range(j) if rand.random() < 0.4]
    return count, pairs


class OrderTest(unittest.TestCase):
    def test_fields(self):
        problem = shoes()
        order = Order(problem, ["sock-l", "shoe-l", "kick"], [[0, 1], [1, 2]])
        self.assertIs(order.problem, problem)
        self.assertEqual(order.plan, ("sock-l", "shoe-l", "kick"))
        self.assertEqual(set(order.pairs), {(0, 1), (1, 2), (0, 2)})
        self.assertEqual([type(order.plan), type(order.pairs)], [tuple, dict])
        self.assertEqual(Order(problem, (), ()).pairs, {})
        self.assertEqual(set(Order(problem, order.plan, order.pairs).pairs), set(order.pairs))

    def test_refused(self):
        for pairs in ([(0, 2)], [(-1, 0)], [(2, 0)], [(0, -1)], [(0, 0)], [(0, 1), (1, 0)]):
            kept = list(pairs)
            with self.assertRaises(BadPlan):
                Order(shoes(), ("sock-l", "shoe-l"), pairs)
            self.assertEqual(pairs, kept)
        for plan in (("no",), ("sock-l", "")):
            with self.assertRaises(NoSuch):
                Order(shoes(), plan, ())

    def test_ways(self):
        order = Order(shoes(), PLAN, [(0, 2), (1, 3)])
        self.assertEqual(order.ways(), ((0, 1, 2, 3), (0, 1, 3, 2), (0, 2, 1, 3), (1, 0, 2, 3), (1, 0, 3, 2), (1, 3, 0, 2)))
        self.assertEqual([type(order.ways()), type(order.ways()[0])], [tuple] * 2)
        self.assertEqual(Order(shoes(), PLAN[:3], [(2, 0), (0, 1)]).ways(), ((2, 0, 1),))

    def test_plans(self):
        order = Order(shoes(), ("shoe-l", "sock-l", "kick"), [(1, 0)])
        self.assertEqual(order.plans(), (
            ("sock-l", "shoe-l", "kick"), ("sock-l", "kick", "shoe-l"), ("kick", "sock-l", "shoe-l"),
        ))
        self.assertEqual([type(order.plans()), type(order.plans()[0])], [tuple] * 2)
        self.assertEqual(Order(shoes(), ("kick", "kick"), ()).plans(), (("kick", "kick"),) * 2)

    def test_no_place(self):
        order = Order(Problem(["a"], [], ["a"]), (), ())
        self.assertEqual((order.ways(), order.plans(), order.is_right(), order.check()), (((),), ((),), True, 0))
        self.assertEqual((order.shown(), depth_of(order), looseness(order)), (((), ()), 0, 0))
        order = Order(Problem([], [], ["a"]), (), ())
        self.assertIs(order.is_right(), False)
        with self.assertRaises(BadPlan):
            order.check()

    def test_seven_places_and_eight(self):
        problem = Problem([], [plain("x", [], ["x"], [])], ["x"])
        self.assertEqual(len(Order(problem, ("x",) * 7, ()).ways()), 5040)
        row = Order(problem, ("x",) * 7, [(place, place + 1) for place in range(6)])
        self.assertEqual((row.ways(), row.is_right()), ((tuple(range(7)),), True))
        eight = Order(problem, ("x",) * 8, [(place, place + 1) for place in range(7)])
        for asked in (eight.ways, eight.plans, eight.is_right):
            with self.assertRaises(BadSize):
                asked()
        self.assertEqual(eight.check(), 28)
        self.assertEqual(depth_of(eight), 8)

    def test_is_right(self):
        self.assertIs(Order(shoes(), PLAN, [(0, 2), (1, 3)]).is_right(), True)
        for pairs in ([], [(0, 2)], [(2, 0), (1, 3)]):
            self.assertIs(Order(shoes(), PLAN, pairs).is_right(), False)
        self.assertIs(Order(shoes(), PLAN[:3], [(0, 2)]).is_right(), False)

    def test_check(self):
        self.assertEqual(Order(shoes(), PLAN, [(0, 2), (1, 3)]).check(), 2)
        self.assertEqual(Order(shoes(), PLAN, [(0, 1), (1, 2), (2, 3)]).check(), 6)

    def test_a_need_or_a_goal_that_is_not_given(self):
        for plan, pairs in ((PLAN, []), (PLAN, [(0, 2)]), (PLAN[:3], [(0, 2)]), (PLAN[:1], []), (PLAN, [(2, 0), (1, 3)])):
            with self.assertRaises(BadPlan):
                Order(shoes(), plan, pairs).check()

    def test_what_may_take_it_away(self):
        problem = Problem(["s"], [
            plain("use", ["s"], ["g"], []), plain("lose", ["s"], ["h"], ["s"]), plain("get", [], ["s"], []),
        ], ["g", "h"])
        # The start gives what lose takes away: it must stand behind use.
        self.assertEqual(Order(problem, ("use", "lose"), [(0, 1)]).check(), 1)
        for pairs in ([], [(1, 0)]):
            with self.assertRaises(BadPlan):
                Order(problem, ("use", "lose"), pairs).check()
        # Lose stands ahead of get, or behind use, or it may stand between.
        self.assertEqual(Order(problem, ("lose", "get", "use"), [(0, 1), (1, 2)]).check(), 3)
        self.assertEqual(Order(problem, ("lose", "get", "use"), [(1, 2), (2, 0)]).check(), 3)
        for pairs in ([(1, 2)], [(0, 2), (1, 2)], [(0, 1)], [(1, 0), (0, 2)]):
            with self.assertRaises(BadPlan):
                Order(problem, ("lose", "get", "use"), pairs).check()

    def test_what_the_goal_has_must_stay(self):
        problem = Problem(["s"], [plain("lose", [], [], ["s"]), plain("get", [], ["s"], [])], ["s"])
        self.assertEqual(Order(problem, ("lose", "get"), [(0, 1)]).check(), 1)
        for plan, pairs in ((("lose", "get"), []), (("lose", "get"), [(1, 0)]), (("lose",), [])):
            with self.assertRaises(BadPlan):
                Order(problem, plan, pairs).check()
        self.assertEqual(Order(problem, ("get", "get"), []).check(), 0)

    def test_bars(self):
        problem = Problem(["b"], [
            Deed("use", [], ["b"], ["g"], []), Deed("take", [], [], [], ["b"]), Deed("put", [], [], ["b"], []),
        ], ["g"], ["b"])
        self.assertEqual(Order(problem, ("take", "use"), [(0, 1)]).check(), 1)
        for plan, pairs in (
            (("take", "use"), []), (("use",), []), (("take", "use", "put"), [(0, 1), (1, 2)]), (("take", "use", "put"), [(0, 1)]),
            (("put", "take", "use"), [(1, 2)]),
        ):
            with self.assertRaises(BadPlan):
                Order(problem, plan, pairs).check()
        self.assertEqual(Order(problem, ("put", "take", "use"), [(0, 1), (1, 2)]).check(), 3)
        free = Problem([], list(problem.deeds.values()), ["g"])
        self.assertEqual(Order(free, ("use",), []).check(), 0)
        self.assertEqual(Order(free, ("use", "put"), [(0, 1)]).check(), 1)
        with self.assertRaises(BadPlan):
            Order(free, ("use", "put"), []).check()

    def test_wants(self):
        order = Order(Problem([], [Deed("d", ["b", "a"], ["c"], [], [])], ["g"], ["h"]), ("d",), ())
        self.assertEqual(order.wants("d"), (("a", "b"), ("c",)))
        self.assertEqual(order.wants(None), (("g",), ("h",)))
        self.assertEqual([type(order.wants("d")), type(order.wants(None))], [tuple] * 2)
        for name in ("no", ""):
            with self.assertRaises(NoSuch):
                order.wants(name)

    def test_ahead(self):
        order = Order(shoes(), PLAN, [(3, 1), (1, 0)])
        self.assertEqual([order.ahead(place) for place in range(4)], [[None, 1, 3], [None, 3], [None], [None]])
        self.assertEqual(order.ahead(None), [None, 0, 1, 2, 3])
        self.assertIs(type(order.ahead(0)), list)

    def test_gives(self):
        problem = Problem(["s"], [plain("add", [], ["f"], ["s"]), plain("drop", [], ["s"], ["f"]), plain("idle", [], [], [])], [])
        order = Order(problem, ("add", "drop", "idle"), [(0, 2)])
        for one, fact, mark, place, told in (
            (0, "f", True, 2, False), (0, "f", True, None, False), (0, "f", False, 2, False), (1, "f", False, 2, False),
            (1, "f", False, 0, True), (0, "f", True, 1, True), (None, "s", True, 2, False), (None, "s", True, 0, True),
            (None, "f", False, 0, True), (None, "f", False, 2, False), (None, "f", True, 0, False), (None, "s", False, 1, False),
            (2, "f", True, 1, False), (None, "q", False, None, True), (None, "q", True, None, False),
        ):
            self.assertIs(order.gives(one, fact, mark, place), told, (one, fact, mark, place))
        order = Order(problem, ("add", "drop", "idle"), [(1, 0), (0, 2)])
        self.assertIs(order.gives(0, "f", True, 2), True)
        self.assertIs(order.gives(0, "f", True, None), True)
        self.assertIs(order.gives(1, "f", False, None), False)
        order = Order(problem, ("add", "drop", "idle"), [(0, 2), (2, 1)])
        self.assertIs(order.gives(0, "f", True, 2), True)
        self.assertIs(order.gives(0, "f", True, None), False)
        self.assertIs(order.gives(1, "f", False, None), True)

    def test_shown(self):
        order = Order(shoes(), PLAN, [(3, 1), (1, 0), (1, 2)])
        found = order.shown()
        self.assertEqual(found, (PLAN, ((1, 0), (1, 2), (3, 0), (3, 1), (3, 2))))
        self.assertEqual([type(found), type(found[1]), type(found[1][0])], [tuple] * 3)

    def test_a_checked_order_is_right_in_every_way(self):
        right = [0, 0]
        for seed in SEEDS:
            problem = rand_problem(seed)
            for plan in [plan for plan in all_plans(problem, 4) if len(plan) > 1][:12]:
                count = len(plan)
                rand = random.Random(seed)
                pairs = [(one, other) for other in range(count) for one in range(other) if rand.random() < 0.7]
                order = Order(problem, plan, pairs)
                told = all(comes(problem, one) for one in order.plans())
                self.assertIs(order.is_right(), told, seed)
                right[checks(order)] += 1
                if checks(order):
                    self.assertTrue(told, (seed, plan))
                    self.assertEqual(order.check(), len(order.pairs))
        self.assertGreater(min(right), 10)


class ClosedTest(unittest.TestCase):
    def test_closed(self):
        self.assertEqual(set(closed(4, [(0, 1), (1, 3)])), {(0, 1), (1, 3), (0, 3)})
        self.assertEqual(closed(0, ()), {})
        self.assertEqual(closed(3, []), {})
        self.assertIs(type(closed(2, [[0, 1]])), dict)
        self.assertEqual(set(closed(5, [(4, 3), (3, 2), (2, 1), (1, 0)])), {(one, other) for one in range(5) for other in range(one)})

    def test_refused(self):
        for pairs in ([(0, 3)], [(3, 0)], [(-1, 0)], [(0, -1)], [(0, 1), (9, 9)]):
            with self.assertRaises(BadPlan):
                closed(3, pairs)
        for pairs in ([(0, 0)], [(2, 2)], [(0, 1), (1, 0)], [(0, 1), (1, 2), (2, 0)], [(0, 1), (1, 2), (2, 1)]):
            kept = list(pairs)
            with self.assertRaises(BadPlan):
                closed(3, pairs)
            self.assertEqual(pairs, kept)
        with self.assertRaises(BadPlan):
            closed(0, [(0, 0)])

    def test_many_pairs(self):
        for seed in range(100):
            count, pairs = some_pairs(seed)
            found = closed(count, pairs)
            self.assertEqual(set(found), closed_told(count, pairs), seed)
            self.assertEqual(lines(list(range(count)), found), ways_told(count, pairs), seed)
            for one, other in pairs[:1]:
                with self.assertRaises(BadPlan):
                    closed(count, pairs + [(other, one)])

    def test_lines(self):
        self.assertEqual(lines([0, 1, 2], {(2, 0): True}), [(1, 2, 0), (2, 0, 1), (2, 1, 0)])
        self.assertEqual(lines((2, 0), {}), [(0, 2), (2, 0)])
        self.assertEqual(lines([], {}), [()])
        self.assertEqual(lines([3], {(1, 3): True}), [(3,)])
        self.assertEqual([type(lines([1], {})), type(lines([1], {})[0])], [list, tuple])
        left, pairs = [1, 0], {(1, 0): True}
        lines(left, pairs)
        self.assertEqual((left, pairs), ([1, 0], {(1, 0): True}))

    def test_leads(self):
        self.assertIs(leads(lamp(), ("go", "light")), True)
        for plan in (["go"], ["light"], ["no"], ["go", "light", "break"]):
            self.assertIs(leads(lamp(), plan), False)


class LoosenedTest(unittest.TestCase):
    def test_loosened(self):
        order = loosened(shoes(), PLAN)
        self.assertEqual(order.shown(), (PLAN, ((0, 2), (1, 3))))
        self.assertEqual(order.check(), 2)
        self.assertEqual(loosened(lamp(), ["go", "light"]).shown(), (("go", "light"), ((0, 1),)))
        twice = Problem([], [plain("x", [], ["x"], [])], ["x"])
        self.assertEqual(loosened(twice, ("x", "x")).shown(), (("x", "x"), ()))

    def test_loosest(self):
        self.assertEqual(loosest(shoes(), PLAN).shown(), (PLAN, ((0, 2), (1, 3))))
        # Two that can't be swapped, but of which none needs the other.
        problem = Problem([], [plain("x", [], ["x"], []), plain("y", ["x"], ["y"], []), plain("z", ["x"], ["z"], [])], ["x"])
        self.assertEqual(loosest(problem, ("x", "y", "z")).shown(), (("x", "y", "z"), ((0, 1), (0, 2))))
        both = Problem(["x"], list(problem.deeds.values()), ["y"])
        self.assertEqual(loosened(both, ("x", "y")).shown(), (("x", "y"), ((0, 1),)))
        self.assertEqual(loosest(both, ("x", "y")).shown(), (("x", "y"), ()))

    def test_a_pair_that_followed_may_stay_where_another_went(self):
        deeds = [plain("a", [], ["x", "p"], []), plain("b", ["p"], ["q"], []), plain("c", ["q", "x"], ["g"], [])]
        problem = Problem(["p", "q"], deeds, ["g"])
        self.assertEqual(loosened(problem, ("a", "b", "c")).shown()[1], ((0, 1), (0, 2), (1, 2)))
        self.assertEqual(loosest(problem, ("a", "b", "c")).shown()[1], ((0, 2),))

    def test_plans_that_are_refused(self):
        for function in (loosened, loosest):
            for plan, error in ((("go",), BadPlan), ((), BadPlan), (("light",), BadDeed), (("go", "no"), NoSuch)):
                with self.assertRaises(error):
                    function(lamp(), plan)

    def test_many_plans(self):
        gone = 0
        for seed in SEEDS:
            problem = rand_problem(seed)
            plans = [plan for plan in all_plans(problem, 5) if len(plan) > 1]
            for plan in plans[:6] + plans[-6:]:
                order = loosened(problem, plan)
                deeds = [problem.deeds[name] for name in plan]
                pairs = [(one, other) for other in range(len(plan)) for one in range(other) if not may_swap(deeds[one], deeds[other])]
                self.assertEqual(set(order.pairs), closed_told(len(plan), pairs), seed)
                self.assertTrue(order.is_right())
                self.assertTrue(checks(order))
                loose = loosest(problem, plan)
                gone += len(loose.pairs) < len(order.pairs)
                self.assertEqual(loose.shown(), self.loosest_told(problem, order), seed)
                self.assertTrue(loose.is_right() and checks(loose), seed)
        self.assertGreater(gone, 10)

    def loosest_told(self, problem, order):
        """Return what an order without the pairs that it's right without shows."""
        pairs = sorted(order.pairs)
        for pair in pairs:
            rest = [one for one in pairs if one != pair]
            if closed_told(len(order.plan), rest) == set(rest) and checks(Order(problem, order.plan, rest)):
                return self.loosest_told(problem, Order(problem, order.plan, rest))
        return (order.plan, tuple(pairs))


class MeasuresTest(unittest.TestCase):
    def test_checks(self):
        self.assertIs(checks(Order(shoes(), PLAN, [(0, 2), (1, 3)])), True)
        self.assertIs(checks(Order(shoes(), PLAN, [(0, 2)])), False)

    def test_short_pairs(self):
        self.assertEqual(short_pairs(closed(4, [(0, 1), (1, 2), (2, 3)])), [(0, 1), (1, 2), (2, 3)])
        self.assertEqual(short_pairs(closed(4, [(3, 1), (1, 0), (3, 0), (3, 2)])), [(1, 0), (3, 1), (3, 2)])
        self.assertEqual(short_pairs({}), [])
        # Where the table isn't closed, a pair follows from a longer row too.
        self.assertEqual(short_pairs({(0, 3): True, (2, 3): True, (1, 2): True, (0, 1): True}), [(0, 1), (1, 2), (2, 3)])
        self.assertEqual([type(short_pairs({})), type(short_pairs({(0, 1): True})[0])], [list, tuple])

    def test_many_orders(self):
        for seed in range(100):
            count, pairs = some_pairs(seed)
            problem = Problem([], [plain("x", [], [], [])], [])
            order = Order(problem, ("x",) * count, pairs)
            short = short_pairs(order.pairs)
            told = [
                pair for pair in sorted(order.pairs)
                if pair not in closed_told(count, [one for one in order.pairs if one != pair])
            ]
            self.assertEqual(short, told, seed)
            self.assertEqual(closed_told(count, short), set(order.pairs), seed)
            loose = [row for row in ((one, other) for other in range(count) for one in range(other))
                     if row not in order.pairs and row[::-1] not in order.pairs]
            self.assertEqual(looseness(order), len(loose), seed)
            deep = max([
                size for size in range(count + 1)
                if any(all((way[k], way[k + 1]) in order.pairs for k in range(size - 1)) for way in permutations(range(count), size))
            ])
            self.assertEqual(depth_of(order), deep, seed)

    def test_depth_and_looseness(self):
        order = Order(shoes(), PLAN, [(0, 2), (1, 3)])
        self.assertEqual((depth_of(order), looseness(order)), (2, 4))
        row = Order(shoes(), PLAN, [(3, 2), (2, 1), (1, 0)])
        self.assertEqual((depth_of(row), looseness(row)), (4, 0))
        free = Order(shoes(), PLAN, [])
        self.assertEqual((depth_of(free), looseness(free)), (1, 6))
        self.assertEqual(looseness(Order(shoes(), PLAN[:1], [])), 0)

    def test_longest(self):
        order = Order(shoes(), PLAN, [(3, 2), (2, 0)])
        self.assertEqual([longest(order, place, {}) for place in range(4)], [3, 1, 2, 1])
        found = {}
        self.assertEqual(longest(order, 0, found), 3)
        self.assertEqual(found, {3: 1, 2: 2, 0: 3})
        self.assertEqual(longest(order, 0, {0: 9}), 9)
        self.assertEqual(longest(order, 0, {2: 5}), 6)

    def test_plans_of_a_walk_stand_in_a_row(self):
        problem = walk([("ab", "a", "b", 1), ("bc", "b", "c", 1), ("cd", "c", "d", 1)], "a", "d")
        order = loosest(problem, ("ab", "bc", "cd"))
        self.assertEqual((order.check(), depth_of(order), looseness(order)), (3, 3, 0))


if __name__ == "__main__":
    unittest.main()
