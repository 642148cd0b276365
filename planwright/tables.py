"""Tables: exact heights of a problem cut down to some facts, put together where no deed counts twice."""

from planwright.deeds import Deed, facts
from planwright.errors import BadPaper, BadSize
from planwright.problems import Problem
from planwright.searches import all_costs


def cut_down(problem, kept, costs=None):
    """Return the problem of some facts alone, deeds as they were told, with other costs if told; BadFact."""
    names = facts(kept)
    prices = {} if costs is None else costs
    deeds = []
    for deed in problem.deeds.values():
        needs, bars = within(deed.needs, names), within(deed.bars, names)
        adds, drops = within(deed.adds, names), within(deed.drops, names)
        deeds.append(Deed(deed.name, needs, bars, adds, drops, prices.get(deed.name, deed.cost)))
    return Problem(within(problem.start, names), deeds, within(problem.goal, names), within(problem.bars, names))


def within(row, names):
    """Return a row's facts that are among others."""
    return tuple([fact for fact in row if fact in names])


class Table:
    """Facts that are kept, and the least costs of all cut down states that can be come to; BadSize past a count."""

    def __init__(self, problem, kept, costs=None, most=500):
        self.kept = facts(kept)
        self.costs = all_costs(cut_down(problem, self.kept, costs), most)

    def height(self, state):
        """Return a state's least cost, cut down, None where the goal can't be come to; BadSize for one not come to."""
        here = within(state, self.kept)
        if here not in self.costs:
            raise BadSize("not come to, cut down")
        return self.costs[here]


def touches(deed, kept):
    """Tell whether a deed adds or drops any of some facts."""
    return any(fact in kept for fact in deed.adds) or any(fact in kept for fact in deed.drops)


def are_apart(problem, lots):
    """Tell whether no deed touches two of some lots of facts."""
    return all(len([lot for lot in lots if touches(deed, lot)]) < 2 for deed in problem.deeds.values())


def summed(tables, state):
    """Return the sum of tables' heights, None where one has none; BadSize."""
    heights = [table.height(state) for table in tables]
    return None if None in heights else sum(heights)


def greatest(tables, state):
    """Return the greatest of tables' heights, None where one has none, nought for no tables; BadSize."""
    heights = [table.height(state) for table in tables]
    return None if None in heights else max(heights, default=0)


def shared_out(problem, lots):
    """Return, for each lot of facts, a table of deeds to costs.

    The cost of each deed goes to the first lot that it touches, nought elsewhere.
    """
    tables = [{deed.name: 0 for deed in problem.deeds.values()} for _ in lots]
    for deed in problem.deeds.values():
        touched = [table for lot, table in zip(lots, tables) if touches(deed, lot)]
        if touched != []:
            touched[0][deed.name] = deed.cost
    return tuple(tables)


def tables_of(problem, lots, shared):
    """Return tables of lots of facts, costs shared out or not; BadFact, BadSize."""
    if shared:
        return tuple([Table(problem, lot, costs) for lot, costs in zip(lots, shared_out(problem, lots))])
    return tuple([Table(problem, lot) for lot in lots])


def is_even(problem, height, states):
    """Tell whether a function's heights are nought at goals and no deed lowers one by more than its cost.

    None ones are left out.
    """
    for state in [tuple(row) for row in states]:
        here = height(state)
        if here is not None and problem.is_goal(state) and here != 0:
            return False
        if here is not None and any(lowers(height, here, deed, deed.done(state)) for deed in problem.choices(state)):
            return False
    return True


def lowers(height, here, deed, after):
    """Tell whether a deed lowers a function's height, from what it is ahead of it, by more than its cost."""
    behind = height(after)
    return behind is not None and here > behind + deed.cost


def check_never_above(problem, height, costs):
    """Return how many states a function's heights never are too great in, by a table of true costs; BadPaper."""
    for state, cost in costs.items():
        here = height(state)
        if cost is not None and (here is None or here > cost):
            raise BadPaper("too great")
    return len(costs)


def sharpest(problem, functions, state):
    """Return the place of the first function of heights that is greatest at a state, None ones greatest of all.

    None for no functions.
    """
    best = None
    most = 0
    for place, function in enumerate(functions):
        here = function(problem, tuple(state))
        if best is None or (most is not None and (here is None or here > most)):
            best = place
            most = here
    return best
