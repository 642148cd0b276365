"""Orders: plans whose deeds stand in some order alone, all ways to do them, and what each need hangs on."""

from planwright.deeds import may_swap
from planwright.errors import BadPlan, BadSize
from planwright.problems import comes


class Order:
    """A problem, names of deeds by their places, and (place, place) pairs that must stand so."""

    def __init__(self, problem, plan, pairs):
        self.problem = problem
        self.plan = tuple([problem.deed(name).name for name in plan])
        self.pairs = closed(len(self.plan), pairs)

    def ways(self):
        """Return all orders of places in which the pairs stand, in order; BadSize past seven places."""
        if len(self.plan) > 7:
            raise BadSize(f"more than seven places: {len(self.plan)}")
        return tuple(lines(list(range(len(self.plan))), self.pairs))

    def plans(self):
        """Return the plans of all ways; BadSize."""
        return tuple([tuple([self.plan[place] for place in way]) for way in self.ways()])

    def is_right(self):
        """Tell whether all ways can be done and come to the goal; BadSize."""
        return all(leads(self.problem, plan) for plan in self.plans())

    def check(self):
        """Return how many pairs a right order has; BadPlan.

        Each need and goal has a deed, or the start, ahead that gives it, and whatever may take it away stands ahead of
        that or behind.
        """
        for place in list(range(len(self.plan))) + [None]:
            needs, bars = self.wants(None if place is None else self.plan[place])
            for fact in needs:
                if not any(self.gives(one, fact, True, place) for one in self.ahead(place)):
                    raise BadPlan(f"not given: {fact}")
            for fact in bars:
                if not any(self.gives(one, fact, False, place) for one in self.ahead(place)):
                    raise BadPlan(f"not taken: {fact}")
        return len(self.pairs)

    def wants(self, name):
        """Return the (needed, barred) facts of a deed, or of the goal for None."""
        if name is None:
            return (self.problem.goal, self.problem.bars)
        deed = self.problem.deed(name)
        return (deed.needs, deed.bars)

    def ahead(self, place):
        """Return the start, None, and the places that must stand ahead of a place, all of them ahead of the goal."""
        return [None] + [one for one in range(len(self.plan)) if place is None or (one, place) in self.pairs]

    def gives(self, one, fact, mark, place):
        """Tell whether a place, or the start, makes a fact's mark, and nothing that turns it may stand between.

        Between is behind that place and ahead of the other one, or of the goal, None.
        """
        if one is None:
            made = (fact in self.problem.start) == mark
        else:
            made = self.marks(one, fact, mark)
        return made and all(
            other == place or (other, one) in self.pairs or (place, other) in self.pairs
            for other in range(len(self.plan))
            if self.marks(other, fact, not mark)
        )

    def marks(self, place, fact, mark):
        """Tell whether a place's deed adds a fact, or drops it for a mark of False."""
        deed = self.problem.deed(self.plan[place])
        return fact in (deed.adds if mark else deed.drops)

    def shown(self):
        """Return (plan, pairs in order)."""
        return (self.plan, tuple(sorted(self.pairs)))


def closed(count, pairs):
    """Return a table of pairs and all that follow; BadPlan for a place that isn't there, or a ring."""
    found = {}
    for one, other in pairs:
        if not (0 <= one < count and 0 <= other < count):
            raise BadPlan(f"no such places: {one}, {other}")
        found[(one, other)] = True
    for middle in range(count):
        behind = [other for other in range(count) if (middle, other) in found]
        for one in [place for place in range(count) if (place, middle) in found]:
            for other in behind:
                found[(one, other)] = True
    if any((place, place) in found for place in range(count)):
        raise BadPlan("a ring")
    return found


def lines(left, pairs):
    """Return all orders of places in which pairs stand, in order."""
    if len(left) == 0:
        return [()]
    found = []
    for place in sorted(left):
        rest = [one for one in left if one != place]
        if not any((one, place) in pairs for one in rest):
            found.extend([(place,) + line for line in lines(rest, pairs)])
    return found


def leads(problem, plan):
    """Tell whether a plan can be done and comes to the goal."""
    return comes(problem, plan)


def loosened(problem, plan):
    """Return the order of a plan in which only deeds that can't be swapped stand as they do.

    BadPlan, BadDeed or NoSuch for a plan that doesn't come to the goal.
    """
    problem.check(plan)
    deeds = [problem.deed(name) for name in plan]
    places = range(len(deeds))
    pairs = [(one, other) for other in places for one in range(other) if not may_swap(deeds[one], deeds[other])]
    return Order(problem, plan, pairs)


def loosest(problem, plan):
    """Return a right order of a plan without the pairs that it's right without; BadPlan, BadDeed, NoSuch.

    Pair by pair, the first one first, from the beginning again behind each that went.
    """
    order = loosened(problem, plan)
    left = short_pairs(order.pairs)
    while left != []:
        # A pair that follows from others would come back; one that doesn't goes alone, and all others stay.
        other = Order(problem, plan, [pair for pair in order.pairs if pair != left[0]])
        if checks(other):
            order = other
            left = short_pairs(order.pairs)
        else:
            left = left[1:]
    return order


def checks(order):
    """Tell whether an order is shown right by what each need hangs on."""
    try:
        order.check()
    except BadPlan:
        return False
    return True


def short_pairs(pairs):
    """Return the pairs, in order, that don't follow from others."""
    places = sorted({place for pair in pairs for place in pair})
    table = closed(max(places, default=-1) + 1, list(pairs))
    return [
        (one, other) for one, other in sorted(pairs)
        if not any((one, place) in table and (place, other) in table for place in places)
    ]


def depth_of(order):
    """Return how many places stand behind each other at most."""
    found = {}
    return max([longest(order, place, found) for place in range(len(order.plan))], default=0)


def longest(order, place, found):
    """Return how many places stand behind each other up to a place, itself too; the table keeps what was found."""
    if place not in found:
        ahead = [one for one in range(len(order.plan)) if (one, place) in order.pairs]
        found[place] = 1 + max([longest(order, one, found) for one in ahead], default=0)
    return found[place]


def looseness(order):
    """Return how many pairs of places may stand either way."""
    count = len(order.plan)
    return count * (count - 1) // 2 - len(order.pairs)
