"""Nets: rings, bounds, soonest times, plans whose deeds last, and what is refused."""

import random
import unittest
from itertools import product

from planwright.deeds import plain
from planwright.errors import BadPaper, BadPlan, BadSize, NoSuch
from planwright.nets import Net, as_one, check_ring, critical, lasting, side_lengths, soonest_end, tightened
from planwright.orders import Order
from planwright.problems import Problem
from samples import kinds

SEEDS = range(150)


def rand_net(seed):
    """Return one of many nets, the same for the same seed; some can't be."""
    rand = random.Random(seed)
    count = rand.randint(1, 5)
    rows = [
        (rand.randrange(count), rand.randrange(count), rand.randint(-3, 9)) for _ in range(rand.randint(0, 8))
    ]
    return Net(count, rows)


def far_told(net):
    """Return the table of the most that events can be behind each other, None where times can't be."""
    far = {(event, event): 0 for event in range(net.count)}
    for _ in range(net.count + 1):
        for event in range(net.count):
            for one, other, most in net.rows:
                if (event, one) in far:
                    most += far[(event, one)]
                    far[(event, other)] = min(most, far.get((event, other), most))
    if any(far[(one, one)] < 0 for one in range(net.count)):
        return None
    return far


def rand_order(seed):
    """Return an order of some deeds, lengths of them and a gap, the same for the same seed."""
    rand = random.Random(seed)
    count = rand.randint(0, 6)
    places = rand.sample(range(count), count)
    pairs = [(places[k], places[j]) for j in range(count) for k in range(j) if rand.random() < 0.35]
    problem = Problem([], [plain("d%d" % k, [], [], []) for k in range(max(count, 1))], [])
    order = Order(problem, ["d%d" % k for k in range(count)], pairs)
    return order, [rand.choice([0, 1, 2, 3, 7]) for _ in range(count)], rand.choice([0, 0, 1, 3])


def begins_told(order, lengths, gap, held=()):
    """Return the soonest beginnings of deeds; (place, time) held tells one that may not begin sooner."""
    begins = [0] * len(order.plan)
    for place, time in held:
        begins[place] = time
    for _ in begins:
        for one, other in order.pairs:
            begins[other] = max(begins[other], begins[one] + lengths[one] + gap)
    return begins


def end_told(begins, lengths):
    """Return the end of all deeds."""
    return max([begun + length for begun, length in zip(begins, lengths)] + [0])


def row_of(count, pairs):
    """Return an order of so many deeds."""
    return Order(Problem([], [plain("d", [], [], [])], []), ["d"] * count, pairs)


class NetTest(unittest.TestCase):
    def test_fields(self):
        net = Net(3, [[0, 1, 5], (1, 2, -3), (0, 1, 5)])
        self.assertEqual((net.count, net.rows), (3, ((0, 1, 5), (1, 2, -3), (0, 1, 5))))
        self.assertEqual(net.shown(), (3, ((0, 1, 5), (1, 2, -3), (0, 1, 5))))
        self.assertEqual(kinds(net.shown()), kinds((3, ((0, 1, 5), (1, 2, -3), (0, 1, 5)))))
        self.assertEqual(Net(1, ()).shown(), (1, ()))

    def test_refused(self):
        for count, rows in (
            (0, []), (-1, []), (0, [(0, 0, 0)]), (1, [(0, 1, 5)]), (1, [(1, 0, 5)]), (2, [(0, -1, 5)]), (2, [(-1, 0, 5)]),
            (2, [(0, 1, 5), (0, 2, 5)]), (2, [(2, 1, 0)]),
        ):
            kept = list(rows)
            with self.assertRaises(BadSize):
                Net(count, rows)
            self.assertEqual(rows, kept)

    def test_rings(self):
        self.assertIsNone(Net(1, []).ring())
        self.assertIsNone(Net(1, [(0, 0, 0)]).ring())
        self.assertEqual(Net(1, [(0, 0, -1)]).ring(), (0,))
        self.assertIsNone(Net(2, [(0, 1, 2), (1, 0, -2)]).ring())
        self.assertEqual(Net(2, [(0, 1, 1), (1, 0, -2)]).ring(), (0, 1))
        self.assertEqual(Net(5, [(4, 2, 1), (2, 3, -4), (3, 4, 2), (0, 1, -9)]).ring(), (2, 3, 4))
        self.assertEqual(Net(3, [(0, 1, 5), (1, 2, 5), (2, 2, -1), (1, 0, 5)]).ring(), (2,))
        self.assertEqual(type(Net(1, [(0, 0, -1)]).ring()), tuple)

    def test_a_long_way_is_no_ring(self):
        rows = [(k, k + 1, -1) for k in range(9)]
        self.assertIsNone(Net(10, rows[::-1]).ring())
        self.assertIsNone(Net(10, rows[::-1] + [(9, 0, 9)]).ring())
        self.assertEqual(Net(10, rows[::-1] + [(9, 0, 8)]).ring(), tuple(range(10)))

    def test_many_rings(self):
        none = 0
        for seed in SEEDS:
            net = rand_net(seed)
            ring = net.ring()
            if far_told(net) is None:
                self.assertEqual(len(set(ring)), len(ring))
                self.assertEqual(ring[0], min(ring))
                self.assertLess(check_ring(net, ring), 0)
                self.assertEqual(type(ring), tuple)
            else:
                none += 1
                self.assertIsNone(ring)
        self.assertTrue(30 < none < 120, none)

    def test_check_ring(self):
        net = Net(3, [(0, 1, 5), (0, 1, 1), (1, 0, -2), (1, 2, 0), (2, 2, -3), (2, 0, 4)])
        self.assertEqual(check_ring(net, (0, 1)), -1)
        self.assertEqual(check_ring(net, [1, 0]), -1)
        self.assertEqual(check_ring(net, (2,)), -3)
        self.assertEqual(check_ring(net, (0, 1, 0, 1)), -2)
        self.assertEqual(check_ring(net, (0, 1, 2, 2, 2)), -1)
        for ring in ((), [], (0,), (1, 1), (0, 2), (2, 1), (0, 1, 2), (0, 3), (7,), (0, 1, 2, 2)):
            with self.assertRaises(BadPaper, msg=ring):
                check_ring(net, ring)
        with self.assertRaises(BadPaper):
            check_ring(Net(2, [(0, 1, 1), (1, 0, -1)]), (0, 1))

    def test_far(self):
        net = Net(4, [(0, 1, 5), (0, 1, 7), (1, 2, -2), (2, 0, -1)])
        self.assertEqual(net.far(), {
            (0, 0): 0, (0, 1): 5, (0, 2): 3, (1, 0): -3, (1, 1): 0, (1, 2): -2, (2, 0): -1, (2, 1): 4, (2, 2): 0, (3, 3): 0,
        })
        self.assertEqual(list(net.far()), sorted(net.far()))
        self.assertEqual(type(net.far()), dict)
        self.assertEqual(Net(1, [(0, 0, 4)]).far(), {(0, 0): 0})

    def test_times_that_cant_be(self):
        for net in (Net(1, [(0, 0, -1)]), Net(3, [(1, 2, 1), (2, 1, -2)])):
            for asked in (net.far, net.soonest, lambda: net.slack(0, 0)):
                with self.assertRaises(BadPlan):
                    asked()
            self.assertIs(net.fits((0,) * net.count), False)

    def test_many_fars(self):
        for seed in SEEDS:
            net = rand_net(seed)
            told = far_told(net)
            if told is None:
                with self.assertRaises(BadPlan):
                    net.far()
            else:
                self.assertEqual(net.far(), told)

    def test_soonest(self):
        self.assertEqual(Net(1, []).soonest(), (0,))
        self.assertEqual(Net(3, [(1, 0, -3), (2, 1, -2), (0, 2, 9)]).soonest(), (0, 3, 5))
        self.assertEqual(Net(2, [(0, 1, 9)]).soonest(), (0, 0))
        self.assertEqual(type(Net(1, []).soonest()), tuple)
        # Event 1 would have to be ahead of the first.
        with self.assertRaises(BadPlan):
            Net(2, [(0, 1, -1)]).soonest()

    def test_soonest_is_the_least_that_fits(self):
        rand = 0
        for seed in SEEDS:
            net = rand_net(seed)
            if net.count < 4:
                good = [
                    times for times in product(range(12), repeat=net.count)
                    if times[0] == 0 and all(times[other] - times[one] <= most for one, other, most in net.rows)
                ]
                if good:
                    rand += 1
                    least = tuple(min(times[event] for times in good) for event in range(net.count))
                    self.assertEqual(net.soonest(), least)
                    self.assertIn(least, good)
                else:
                    with self.assertRaises(BadPlan):
                        net.soonest()
        self.assertGreater(rand, 20)

    def test_fits(self):
        net = Net(3, [(0, 1, 5), (1, 0, -2), (1, 2, 0)])
        for times in ((0, 2, 2), (0, 5, 5), [0, 3, -7], (10, 12, 0)):
            self.assertIs(net.fits(times), True)
        for times in ((0, 1, 1), (0, 6, 6), (0, 2, 3), (0, 2), (0, 2, 2, 2), ()):
            self.assertIs(net.fits(times), False)
        self.assertIs(Net(1, []).fits([7]), True)
        self.assertIs(Net(1, []).fits([]), False)

    def test_slack(self):
        net = Net(4, [(0, 1, 5), (1, 0, -2), (1, 2, 0), (3, 0, 4)])
        self.assertEqual([net.slack(0, 1), net.slack(1, 0), net.slack(0, 0)], [3, 3, 0])
        self.assertIsNone(net.slack(1, 2))
        self.assertIsNone(net.slack(2, 1))
        self.assertIsNone(net.slack(2, 3))
        for one, other in ((0, 4), (4, 0), (-1, 0), (0, -1), (9, 9)):
            with self.assertRaises(BadSize):
                net.slack(one, other)
            with self.assertRaises(BadSize):
                Net(1, [(0, 0, -1)]).slack(one, other or 1)

    def test_many_slacks(self):
        for seed in SEEDS:
            net = rand_net(seed)
            told = far_told(net)
            if told is not None:
                for one, other in product(range(net.count), repeat=2):
                    bound = (one, other) in told and (other, one) in told
                    self.assertEqual(net.slack(one, other), told[(one, other)] + told[(other, one)] if bound else None)

    def test_tightened(self):
        net = Net(2, [(0, 1, 5)])
        more = tightened(net, 1, 0, -6)
        self.assertIsInstance(more, Net)
        self.assertEqual(more.shown(), (2, ((0, 1, 5), (1, 0, -6))))
        self.assertEqual(net.shown(), (2, ((0, 1, 5),)))
        self.assertEqual(more.ring(), (0, 1))
        for one, other in ((0, 2), (2, 0), (-1, 1), (1, -1)):
            with self.assertRaises(BadSize):
                tightened(net, one, other, 0)


class LastingTest(unittest.TestCase):
    def test_lasting(self):
        net = lasting(row_of(2, [(1, 0)]), [3, 4])
        self.assertIsInstance(net, Net)
        self.assertEqual(net.count, 5)
        for times, told in (
            ((0, 4, 7, 0, 4), True), ((0, 9, 12, 2, 6), True), ((0, 3, 6, 0, 4), False), ((0, 4, 8, 0, 4), False),
            ((0, 4, 6, 0, 4), False), ((0, 4, 7, 0, 3), False), ((5, 4, 7, 0, 4), False), ((0, 4, 7, -1, 3), False),
            ((-3, 4, 7, 0, 4), True), ((0, 4, 7, 0), False), ((1, 4, 7, 0, 4), False),
        ):
            self.assertIs(net.fits(times), told, times)

    def test_gaps(self):
        net = lasting(row_of(2, [(0, 1)]), (3, 4), 2)
        self.assertIs(net.fits((0, 0, 3, 5, 9)), True)
        self.assertIs(net.fits((0, 0, 3, 4, 8)), False)
        self.assertEqual(soonest_end(row_of(2, [(0, 1)]), (3, 4), 2), (9, (0, 5)))
        self.assertEqual(soonest_end(row_of(3, [(0, 1), (1, 2)]), (3, 0, 4), 2), (11, (0, 5, 7)))
        # No gap is asked where neither stands ahead.
        self.assertEqual(soonest_end(row_of(2, []), (3, 4), 2), (4, (0, 0)))

    def test_no_deeds(self):
        order = row_of(0, [])
        self.assertEqual(lasting(order, []).count, 1)
        self.assertEqual(lasting(order, ()).soonest(), (0,))
        self.assertEqual((soonest_end(order, []), critical(order, ())), ((0, ()), ()))
        self.assertEqual(as_one(order.problem, [], []), 0)

    def test_refused(self):
        order = row_of(2, [(0, 1)])
        for lengths, gap in (([1], 0), ([1, 2, 3], 0), ([], 0), ([1, -1], 0), ([-1, 1], 0), ([1, 1], -1), ([1], -1)):
            for asked in (lasting, soonest_end, critical):
                with self.assertRaises(BadSize):
                    asked(order, lengths, gap)
            with self.assertRaises(BadSize):
                if gap == 0:
                    as_one(order.problem, ["d", "d"], lengths)
                else:
                    lasting(order, lengths, gap)
        self.assertEqual(lasting(order, [0, 0], 0).soonest(), (0,) * 5)

    def test_events(self):
        for seed in SEEDS:
            order, lengths, gap = rand_order(seed)
            net = lasting(order, lengths, gap)
            begins = begins_told(order, lengths, gap)
            times = [0] + [time for begun, length in zip(begins, lengths) for time in (begun, begun + length)]
            self.assertEqual(net.soonest(), tuple(times))
            self.assertIs(net.fits(times), True)
            for place in range(1, len(times)):
                other = times[:place] + [times[place] - 1] + times[place + 1:]
                self.assertIs(net.fits(other), False)

    def test_soonest_end(self):
        order = row_of(4, [(0, 1), (0, 2), (1, 3), (2, 3)])
        found = soonest_end(order, [2, 3, 5, 1])
        self.assertEqual(found, (8, (0, 2, 2, 7)))
        self.assertEqual(kinds(found), kinds((8, (0, 2, 2, 7))))
        # The last to end needn't stand last.
        self.assertEqual(soonest_end(row_of(2, []), [9, 1]), (9, (0, 0)))

    def test_many_ends(self):
        for seed in SEEDS:
            order, lengths, gap = rand_order(seed)
            begins = begins_told(order, lengths, gap)
            self.assertEqual(soonest_end(order, lengths, gap), (end_told(begins, lengths), tuple(begins)))

    def test_critical(self):
        order = row_of(4, [(0, 1), (0, 2), (1, 3), (2, 3)])
        self.assertEqual(critical(order, [2, 3, 5, 1]), (0, 2, 3))
        self.assertEqual(type(critical(order, [2, 3, 5, 1])), tuple)
        self.assertEqual(critical(order, [2, 5, 5, 1]), (0, 1, 2, 3))
        self.assertEqual(critical(row_of(2, []), [9, 1]), (0,))
        self.assertEqual(critical(row_of(2, []), [0, 0]), (0, 1))
        self.assertEqual(critical(row_of(2, [(0, 1)]), [4, 0]), (0, 1))
        self.assertEqual(critical(row_of(2, []), [4, 0]), (0,))
        # With a gap the third deed may begin later, without one it mustn't.
        self.assertEqual(critical(row_of(3, [(0, 1)]), [2, 1, 3]), (0, 1, 2))
        self.assertEqual(critical(row_of(3, [(0, 1)]), [2, 1, 3], 1), (0, 1))

    def test_a_later_beginning_makes_the_end_later(self):
        free = 0
        for seed in SEEDS:
            order, lengths, gap = rand_order(seed)
            begins = begins_told(order, lengths, gap)
            end = end_told(begins, lengths)
            told = [
                place for place in range(len(lengths))
                if end_told(begins_told(order, lengths, gap, [(place, begins[place] + 1)]), lengths) > end
            ]
            self.assertEqual(critical(order, lengths, gap), tuple(told), seed)
            free += len(told) < len(lengths)
        self.assertGreater(free, 30)

    def test_side_lengths(self):
        problem = Problem([], [plain("a", [], [], []), plain("b", [], [], [])], [])
        self.assertEqual(side_lengths(problem, ["b", "a", "b"], {"a": 2, "b": 0, "c": 9}), (0, 2, 0))
        self.assertEqual(side_lengths(problem, (), {}), ())
        self.assertEqual(type(side_lengths(problem, ["a"], {"a": 1})), tuple)
        for plan, table in ((("a",), {}), (("a", "b"), {"a": 1}), (["q"], {"a": 1})):
            with self.assertRaises(BadSize):
                side_lengths(problem, plan, table)

    def test_as_one(self):
        problem = Problem([], [plain("a", [], [], []), plain("b", [], [], [])], [])
        self.assertEqual(as_one(problem, ["a", "b", "a"], (3, 0, 4)), 7)
        self.assertEqual(as_one(problem, ("a",), [3]), 3)
        with self.assertRaises(NoSuch):
            as_one(problem, ["a", "q"], [1, 1])
        for lengths in ([1], [1, 1, 1], [1, -1]):
            with self.assertRaises(BadSize):
                as_one(problem, ["a", "b"], lengths)

    def test_side_by_side_ends_no_later_than_one_by_one(self):
        for seed in range(40):
            order, lengths, _ = rand_order(seed)
            self.assertLessEqual(soonest_end(order, lengths)[0], as_one(order.problem, order.plan, lengths))
            self.assertEqual(as_one(order.problem, order.plan, lengths), sum(lengths))


if __name__ == "__main__":
    unittest.main()
