"""Likes: names exchanged so that a problem stays as it is, and searches that take like states as one."""

from planwright.deeds import Deed, facts
from planwright.errors import BadPaper, BadSize, NoPlan
from planwright.problems import Problem
from planwright.schemas import parted, told_fact
from planwright.searches import queued


def exchanged(fact, table):
    """Return a fact with words in its brackets exchanged by a table; BadFact."""
    return told_fact(parted(fact), table)


def exchanged_state(state, table):
    """Return a state with words exchanged, in order; BadFact."""
    return facts([exchanged(fact, table) for fact in state])


def exchanged_deed(deed, table):
    """Return a deed with words exchanged in its name and facts; BadFact, BadDeed."""
    needs, bars, adds, drops = [
        exchanged_state(row, table) for row in (deed.needs, deed.bars, deed.adds, deed.drops)
    ]
    return Deed(exchanged(deed.name, table), needs, bars, adds, drops, deed.cost)


def exchanged_problem(problem, table):
    """Return a problem with words exchanged; BadFact, BadDeed, BadPlan."""
    deeds = [exchanged_deed(deed, table) for deed in problem.deeds.values()]
    start, goal, bars = [exchanged_state(row, table) for row in (problem.start, problem.goal, problem.bars)]
    return Problem(start, deeds, goal, bars)


def stays(problem, table):
    """Tell whether a table only exchanges words, and deeds, goal and barred facts are the same so; BadFact."""
    if sorted(table) != sorted(table.values()):
        return False
    if exchanged_state(problem.goal, table) != problem.goal or exchanged_state(problem.bars, table) != problem.bars:
        return False
    deeds = list(problem.deeds.values())
    return sorted([exchanged_deed(deed, table).shown() for deed in deeds]) == sorted([deed.shown() for deed in deeds])


def tables_on(words):
    """Return all tables that put words in each other's places, in order; BadSize past five words, BadFact.

    The one that leaves all comes first.
    """
    row = facts(words)
    if len(row) > 5:
        raise BadSize(f"more than five words: {len(row)}")
    return tuple([{word: other for word, other in zip(row, order)} for order in orders_of(row)])


def orders_of(row):
    """Return all orders of a row, in order of places."""
    if len(row) == 0:
        return [()]
    names = tuple(row)
    found = []
    for place, name in enumerate(names):
        found.extend([(name,) + order for order in orders_of(names[:place] + names[place + 1:])])
    return found


def likes_of(problem, words):
    """Return the tables on words by which a problem stays; BadSize, BadFact."""
    return tuple([table for table in tables_on(words) if stays(problem, table)])


def least_like(state, tables):
    """Return the least of a state and those that tables make of it; BadFact."""
    return min([facts(state)] + [exchanged_state(state, table) for table in tables])


def cheapest_by_likes(problem, tables, most=500):
    """Return (cost, plan, states taken), the cheapest, like states taken as one; NoPlan, BadSize, BadPaper.

    Each state is asked for by its like, but it is itself gone on from, so that the plan can be done.
    """
    if any(not stays(problem, table) for table in tables):
        raise BadPaper("the problem doesn't stay")
    mine = least_like(problem.start, tables)
    costs, froms, taken = {mine: 0}, {mine: None}, {}
    left = queued([], 0, 0, problem.start, None)
    count = 0
    while left != []:
        cost, _, state = left[0]
        left = left[1:]
        here = least_like(state, tables)
        if here in taken:
            continue
        taken[here] = True
        if problem.is_goal(state):
            return (cost, way_by(froms, here), len(taken))
        for deed in problem.choices(state):
            after = deed.done(state)
            mine = least_like(after, tables)
            if mine not in costs and len(costs) == most:
                raise BadSize("too many states")
            if mine not in costs or cost + deed.cost < costs[mine]:
                count += 1
                costs[mine] = cost + deed.cost
                froms[mine] = (deed.name, here)
                left = queued(left, costs[mine], count, after, None)
    raise NoPlan("no plan comes to the goal")


def way_by(froms, key):
    """Return the plan by which a table came to a key: it leads from each key to (deed's name, key ahead), or None."""
    names = []
    while froms[key] is not None:
        name, key = froms[key]
        names.append(name)
    return tuple(names[::-1])


def exchanged_plan(plan, table):
    """Return a plan with words exchanged in its names; BadFact."""
    return tuple([exchanged(name, table) for name in plan])


def lots_of_like(states, tables):
    """Return lots of states that tables make of each other, in order of the first; BadFact."""
    found = {}
    for state in sorted({facts(state) for state in states}):
        found.setdefault(least_like(state, tables), []).append(state)
    return tuple([tuple(lot) for lot in found.values()])
