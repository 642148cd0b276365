"""Nets: times of events between bounds, whether they can be, the soonest and latest, and plans whose deeds last."""

from planwright.errors import BadPaper, BadPlan, BadSize
from planwright.orders import Order


class Net:
    """How many events there are, and (event, event, most) rows: the other is no more than so much behind the one."""

    def __init__(self, count, rows):
        self.count = count
        self.rows = tuple([(one, other, most) for one, other, most in rows])
        if count < 1 or any(not (0 <= one < count and 0 <= other < count) for one, other, most in self.rows):
            raise BadSize("no events, or a row of one that isn't there")

    def ring(self):
        """Return a ring of events, each row's next one, along which the mosts are below nought in all, None for none.

        It begins with its least event.
        """
        far = [0] * self.count
        ahead = [None] * self.count
        last = None
        # A way without a ring has fewer rows than there are events: what goes on getting less is behind a ring.
        for _ in range(self.count):
            last = None
            for one, other, most in self.rows:
                if far[one] + most < far[other]:
                    far[other] = far[one] + most
                    ahead[other] = one
                    last = other
            if last is None:
                return None
        return ring_ahead(ahead, last)

    def far(self):
        """Return the table of pairs of events to the most that the other can be behind the one.

        Pairs without bounds are left out; BadPlan where times can't be.
        """
        if self.ring() is not None:
            raise BadPlan("times can't be")
        far = [{event: 0} for event in range(self.count)]
        for one, other, most in self.rows:
            far[one][other] = min(most, far[one].get(other, most))
        for middle in range(self.count):
            far = [by_way_of(middle, row, far[middle]) for row in far]
        return {(one, other): far[one][other] for one in range(self.count) for other in sorted(far[one])}

    def soonest(self):
        """Return the soonest time of each event, the first at nought and none ahead of it; BadPlan."""
        held = Net(self.count, self.rows + tuple([(event, 0, 0) for event in range(self.count)]))
        far = held.far()
        return tuple([-far[(event, 0)] for event in range(self.count)])

    def fits(self, times):
        """Tell whether times keep all bounds; False for another count of times."""
        return len(times) == self.count and all(times[other] - times[one] <= most for one, other, most in self.rows)

    def slack(self, one, other):
        """Return how much the other's most behind the one is above its least, None without bounds; BadSize, BadPlan."""
        if not (0 <= one < self.count and 0 <= other < self.count):
            raise BadSize(f"no such events: {one}, {other}")
        far = self.far()
        if (one, other) not in far or (other, one) not in far:
            return None
        return far[(one, other)] + far[(other, one)]

    def shown(self):
        """Return (count, rows)."""
        return (self.count, self.rows)


def ring_ahead(ahead, event):
    """Return the ring that is come to from an event by a row of the events ahead of each, its least event first."""
    for _ in ahead:
        event = ahead[event]
    ring = [event]
    while ahead[ring[-1]] != event:
        ring.append(ahead[ring[-1]])
    ring = ring[::-1]
    place = ring.index(min(ring))
    return tuple(ring[place:] + ring[:place])


def by_way_of(middle, row, rest):
    """Return a table of events to the most that they can be behind one, also by way of another event.

    The tables handed in tell so of the one and of the other event.
    """
    if middle not in row:
        return row
    found = dict(row)
    for event, most in rest.items():
        more = row[middle] + most
        found[event] = min(more, row.get(event, more))
    return found


def check_ring(net, ring):
    """Return the sum of a ring's least mosts, below nought.

    BadPaper for events without a row between, or no such sum.
    """
    found = 0
    for place, one in enumerate(ring):
        behind = ring[(place + 1) % len(ring)]
        mosts = [most for first, other, most in net.rows if (first, other) == (one, behind)]
        if mosts == []:
            raise BadPaper(f"no row between: {one}, {behind}")
        found += min(mosts)
    if len(ring) == 0 or found >= 0:
        raise BadPaper("not below nought")
    return found


def lasting(order, lengths, gap=0):
    """Return the net of an order whose deeds last; BadSize for a length or gap below nought, or another count.

    Event nought is the start, then come each deed's beginning and end; those that stand ahead end a gap ahead at least.
    """
    size = len(order.plan)
    if len(lengths) != size or gap < 0 or any(length < 0 for length in lengths):
        raise BadSize("no lengths of the deeds")
    rows = []
    for place, length in enumerate(lengths):
        begins, ends = 1 + 2 * place, 2 + 2 * place
        rows.extend([(begins, 0, 0), (begins, ends, length), (ends, begins, -length)])
    for one, other in sorted(order.pairs):
        rows.append((1 + 2 * other, 2 + 2 * one, -gap))
    return Net(1 + 2 * size, rows)


def soonest_end(order, lengths, gap=0):
    """Return (the soonest end of all, the soonest beginning of each deed); BadSize."""
    times = lasting(order, lengths, gap).soonest()
    return (max(times), times[1::2])


def critical(order, lengths, gap=0):
    """Return the places of deeds that can't begin later without a later end of all, in order; BadSize."""
    end, begins = soonest_end(order, lengths, gap)
    far = lasting(order, lengths, gap).far()
    found = []
    for place, begun in enumerate(begins):
        # How long behind the deed's beginning the last of what hangs on it ends, at least.
        rest = max([-far.get((2 + 2 * last, 1 + 2 * place), 0) for last in range(len(begins))])
        if begun + rest == end:
            found.append(place)
    return tuple(found)


def side_lengths(problem, plan, table):
    """Return deeds' lengths by a table of names; BadSize for a name not there."""
    if any(name not in table for name in plan):
        raise BadSize("no length of a deed")
    return tuple([table[name] for name in plan])


def tightened(net, one, other, most):
    """Return a net with one row more; BadSize."""
    return Net(net.count, net.rows + ((one, other, most),))


def as_one(problem, plan, lengths):
    """Return the soonest end of a plan done deed by deed; BadSize, BadPlan, NoSuch."""
    order = Order(problem, plan, [(place, place + 1) for place in range(len(plan) - 1)])
    return soonest_end(order, lengths)[0]
