"""Relaxed: problems whose deeds drop and bar nothing, what facts cost there, and heights that never are too great."""

from itertools import combinations

from planwright.deeds import Deed
from planwright.errors import BadPaper
from planwright.problems import Problem


def relaxed(problem):
    """Return the problem whose deeds drop nothing, bars and barred goals left out."""
    deeds = [Deed(deed.name, deed.needs, (), deed.adds, (), deed.cost) for deed in problem.deeds.values()]
    return Problem(problem.start, deeds, problem.goal)


def fact_costs(problem, state, summed):
    """Return a table of the facts that can be come to from a state, relaxed, to their costs.

    A deed's needs cost the most of theirs, or their sum.
    """
    costs = {fact: 0 for fact in state}
    again = True
    while again:
        again = False
        for deed in problem.deeds.values():
            ahead = of_row(costs, deed.needs, summed)
            if ahead is not None:
                for fact in deed.adds:
                    if fact not in costs or deed.cost + ahead < costs[fact]:
                        costs[fact] = deed.cost + ahead
                        again = True
    return costs


def of_row(costs, row, summed):
    """Return the most of a row's costs, or their sum, nought for none; None where one isn't there."""
    if any(fact not in costs for fact in row):
        return None
    found = [costs[fact] for fact in row]
    return sum(found) if summed else max(found, default=0)


def height_by_most(problem, state):
    """Return the most that a goal's fact costs, relaxed, None where one can't be come to."""
    return of_row(fact_costs(problem, state, False), problem.goal, False)


def height_by_sum(problem, state):
    """Return the sum of what the goal's facts cost, relaxed, sums throughout, None where one can't be come to."""
    return of_row(fact_costs(problem, state, True), problem.goal, True)


def relaxed_plan(problem, state):
    """Return names of deeds, as they were told, that come to the goal, relaxed; None for none.

    They are, for each wanted fact, its settler, with its needs wanted too.
    """
    table = settlers(problem, state, fact_costs(problem, state, True))
    wanted = list(problem.goal)
    if any(fact not in table for fact in wanted):
        return None
    chosen = {}
    while wanted != []:
        name = table[wanted.pop()]
        if name is not None and name not in chosen:
            chosen[name] = True
            wanted.extend(problem.deed(name).needs)
    return tuple([name for name in problem.deeds if name in chosen])


def settlers(problem, state, costs):
    """Return a table of facts to the names of deeds that settle them, None for the state's.

    Deeds are gone through as told, again and again; one whose needs are settled settles what it adds at its cost by
    sums.
    """
    found = {fact: None for fact in state}
    again = True
    while again:
        again = False
        for deed in problem.deeds.values():
            for fact in settled_by(deed, costs, found):
                found[fact] = deed.name
                again = True
    return found


def settled_by(deed, costs, found):
    """Return the facts that a deed settles and that aren't settled yet."""
    ahead = of_row(costs, deed.needs, True)
    # The order of settling keeps deeds that cost nothing from settling each other in a ring.
    if ahead is None or any(fact not in found for fact in deed.needs):
        return []
    return [fact for fact in deed.adds if fact not in found and costs.get(fact) == deed.cost + ahead]


def closure(problem, state, names):
    """Return the facts come to from a state by some deeds, relaxed, in order."""
    deeds = [problem.deed(name) for name in names]
    there = {fact: True for fact in state}
    again = True
    while again:
        again = False
        for deed in deeds:
            if all(fact in there for fact in deed.needs):
                for fact in deed.adds:
                    if fact not in there:
                        there[fact] = True
                        again = True
    return tuple(sorted(there))


def best_relaxed(problem, state):
    """Return (least cost, names) of deeds that come to the goal, relaxed, None for none.

    Fewer costs, then fewer names, then as they were told.
    """
    if not gives_goal(problem, state, list(problem.deeds)):
        return None
    names = useful(problem, state)
    costs = sorted([problem.deed(name).cost for name in names])
    best = None
    for size in range(len(names) + 1):
        # No lot of so many, nor of more, can cost less.
        if best is not None and sum(costs[:size]) >= best[0]:
            return best
        for lot in picks(names, size):
            cost = problem.cost_of(lot)
            if (best is None or cost < best[0]) and gives_goal(problem, state, lot):
                best = (cost, lot)
    return best


def gives_goal(problem, state, names):
    """Tell whether some deeds come to the goal's facts from a state, relaxed."""
    there = closure(problem, state, names)
    return all(fact in there for fact in problem.goal)


def useful(problem, state):
    """Return the names of deeds, as they were told, that can be done, relaxed, and give what may be wanted.

    A deed that isn't among them can be left out of every lot that comes to the goal.
    """
    there = closure(problem, state, list(problem.deeds))
    chosen = {}
    wanted = [fact for fact in problem.goal if fact not in state]
    while wanted != []:
        fact = wanted.pop()
        for deed in problem.deeds.values():
            if fact in deed.adds and deed.name not in chosen and all(need in there for need in deed.needs):
                chosen[deed.name] = True
                wanted.extend([need for need in deed.needs if need not in state])
    return [name for name in problem.deeds if name in chosen]


def lots(names):
    """Return all lots of names, fewer ones first, then as they stand."""
    found = []
    for size in range(len(names) + 1):
        found.extend(picks(names, size))
    return found


def picks(names, size):
    """Return all lots of so many names, as they stand."""
    return list(combinations(names, size))


def check_relaxed(problem, state, names):
    """Return what deeds cost that come to the goal from a state, relaxed, in some order; BadPaper, NoSuch."""
    if not gives_goal(problem, state, names):
        raise BadPaper("the goal isn't come to")
    return problem.cost_of(names)


def in_order(problem, state, names):
    """Return names of deeds in an order in which they can be done, relaxed, each as early as can be.

    BadPaper where one can't be done, NoSuch for a name not there.
    """
    there = list(state)
    left = list(names)
    found = []
    while left != []:
        good = [name for name in left if all(fact in there for fact in problem.deed(name).needs)]
        if good == []:
            raise BadPaper("can't be done")
        for name in good:
            there.extend(problem.deed(name).adds)
        found.extend(good)
        left = [name for name in left if name not in good]
    return tuple(found)
