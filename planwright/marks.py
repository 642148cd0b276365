"""Marks: facts and lots of deeds that every plan goes by, and heights by lots that share no cost."""

from planwright.deeds import facts
from planwright.errors import BadPaper
from planwright.problems import without
from planwright.relaxed import closure, fact_costs, gives_goal, of_row


def fact_marks(problem, state):
    """Return the facts that every plan from a state has at some time, as far as it shows relaxed, in order.

    They are those of the state, and those without whose adders the goal can't be come to; None where it can't at all.
    """
    if not comes_to(problem, state, list(problem.deeds)):
        return None
    told = [fact for fact in problem.all_facts() if fact not in state]
    return facts(list(state) + [fact for fact in told if not comes_to(problem, state, no_adders(problem, fact))])


def no_adders(problem, fact):
    """Return the names of deeds that don't add a fact."""
    return [deed.name for deed in problem.deeds.values() if fact not in deed.adds]


def comes_to(problem, state, names):
    """Tell whether the goal can be come to from a state by some deeds, relaxed."""
    return gives_goal(problem, state, names)


def deed_marks(problem, state):
    """Return the names of deeds that every plan from a state has, as far as it shows relaxed, as they were told.

    None for no plan.
    """
    names = list(problem.deeds)
    if not comes_to(problem, state, names):
        return None
    return tuple([name for name in names if not comes_to(problem, state, [one for one in names if one != name])])


def ahead_of(problem, state, fact):
    """Return the facts that are there, or were, ahead of a fact in every plan, as far as it shows relaxed, in order.

    The state's own always, the fact itself where it is one of them; None where the fact can't be come to.
    """
    there = closure(problem, state, list(problem.deeds))
    if fact not in there:
        return None
    others = [one for one in there if one != fact and one not in state]
    return facts(list(state) + [one for one in others if fact not in closure(problem, state, no_adders(problem, one))])


def cut_lots(problem, state):
    """Return the (names, cost) lots by cutting again and again where the goal costs most; None for no plan.

    Each lot has a deed of every plan, and takes the least of its costs left.
    """
    if not comes_to(problem, state, list(problem.deeds)):
        return None
    costs = {deed.name: deed.cost for deed in problem.deeds.values()}
    table = costs_with(problem, state, costs)
    found = []
    while of_row(table, problem.goal, False) > 0:
        names = one_cut(problem, state, costs, table)
        least = min([costs[name] for name in names])
        found.append((names, least))
        for name in names:
            costs[name] -= least
        table = costs_with(problem, state, costs)
    return tuple(found)


def costs_with(problem, state, costs):
    """Return the table of facts to their costs, the most of needs, where deeds have other costs."""
    return fact_costs(Priced(problem, costs), state, False)


class Priced:
    """A problem's deeds with other costs."""

    def __init__(self, problem, costs):
        self.deeds = {deed.name: PricedDeed(deed, deed.cost) for deed in problem.deeds.values()}
        for name, cost in costs.items():
            self.deeds[name] = PricedDeed(problem.deed(name), cost)


class PricedDeed:
    """A deed's needs and added facts with another cost."""

    def __init__(self, deed, cost):
        self.needs = deed.needs
        self.adds = deed.adds
        self.cost = cost


def one_cut(problem, state, costs, table):
    """Return the names, as they were told, of deeds that lead from where the goal isn't shown yet to its zone.

    From the facts of the zone on, the goal costs nothing more.
    """
    zone = goal_zone(problem, costs, table)
    # A deed that adds a fact of the zone may add others too: without the zone's, they are there for the next.
    there = {fact: True for fact in state if fact not in zone}
    chosen = {}
    again = True
    while again:
        again = False
        for deed in problem.deeds.values():
            if deed.name not in chosen and all(fact in there for fact in deed.needs):
                chosen[deed.name] = True
                again = True
                for fact in deed.adds:
                    if fact not in zone:
                        there[fact] = True
    deeds = [deed for deed in problem.deeds.values() if deed.name in chosen]
    return tuple([deed.name for deed in deeds if any(fact in zone for fact in deed.adds)])


def goal_zone(problem, costs, table):
    """Return a table of the facts from which a goal's dearest fact costs nothing more, by deeds' dearest needs."""
    zone = {}
    left = dearest(problem.goal, table)
    while left != []:
        fact = left.pop()
        if fact not in zone:
            zone[fact] = True
            for deed in problem.deeds.values():
                if fact in deed.adds and costs.get(deed.name, deed.cost) == 0:
                    left.extend(dearest(deed.needs, table))
    return zone


def dearest(row, table):
    """Return a row of the first of a row's dearest facts; an empty one where it has none, or one can't be come to."""
    most = of_row(table, row, False)
    if most is None:
        return []
    return [fact for fact in row if table[fact] == most][:1]


def height_by_cuts(problem, state):
    """Return the sum of the lots' costs, None for no plan."""
    lots = cut_lots(problem, state)
    return None if lots is None else sum([cost for _, cost in lots])


def check_cuts(problem, state, lots):
    """Return the sum of lots' costs where they are cuts that take no more than the deeds cost; BadPaper, NoSuch.

    Without a lot's deeds the goal can't be come to, relaxed, and no deed gives more than its cost in all.
    """
    for names, cost in lots:
        rest = without(problem, names)
        if cost < 0 or comes_to(rest, state, list(rest.deeds)):
            raise BadPaper("the goal isn't cut off")
    for name in problem.deeds:
        if sum([cost for names, cost in lots if name in names]) > problem.deed(name).cost:
            raise BadPaper(f"gives too much: {name}")
    return sum([cost for _, cost in lots])


def count_marks(problem, state):
    """Return how many of the goal's marks aren't in a state, None for no plan."""
    marks = fact_marks(problem, state)
    return None if marks is None else len([fact for fact in marks if fact not in state])
