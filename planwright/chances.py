"""Chances: deeds that may end in one of several ways, policies that surely come to the goal, or do if tried on."""

from planwright.deeds import Deed
from planwright.errors import BadDeed, BadPaper, BadSize, NoPlan
from planwright.problems import all_ahead, put_in


class Chancy:
    """A start, a goal, barred facts of it, and a table of names to rows of deeds, the ways that each may end.

    The problem's deed is the first way of each name; the table handed in tells the others.
    """

    def __init__(self, problem, ends):
        self.problem = problem
        rows = {problem.deed(name).name: tuple(row) for name, row in ends.items()}
        self.ends = {name: (deed,) + rows.get(name, ()) for name, deed in problem.deeds.items()}
        for row in self.ends.values():
            if any((deed.needs, deed.bars) != (row[0].needs, row[0].bars) for deed in row):
                raise BadDeed(f"another way with other needs: {row[0].name}")

    def after(self, state, name):
        """Return the states that a name may lead to, each once, as its ways are told; BadDeed, NoSuch."""
        ways = self.ends[self.problem.deed(name).name]
        found = {deed.done(state): True for deed in ways}
        return tuple(found)

    def choices(self, state):
        """Return the names that can be done in a state, as they were told."""
        return tuple([deed.name for deed in self.problem.choices(state)])

    def states(self, most=500):
        """Return all states that may be come to, the nearest first; BadSize."""
        found = {}
        put_in(found, self.problem.start, True, most)
        row = [self.problem.start]
        place = 0
        while place < len(row):
            for name in self.choices(row[place]):
                for state in self.after(row[place], name):
                    if state not in found:
                        put_in(found, state, True, most)
                        row.append(state)
            place += 1
        return tuple(row)


def other_end(deed, adds, drops):
    """Return another way that a deed may end: its name, needs, bars and cost, and what it adds and drops then."""
    return Deed(deed.name, deed.needs, deed.bars, adds, drops, deed.cost)


def sure(chancy, most=500):
    """Return a table of states to (name, steps at most) by which the goal is surely come to; BadSize.

    (None, 0) stands for goals; fewest steps, then as told.
    """
    ways = {state: ways_of(chancy, state) for state in chancy.states(most)}
    return by_steps(chancy, ways, True)


def ways_of(chancy, state):
    """Return the (name, states that it may lead to) rows of a state, as told."""
    return [(name, chancy.after(state, name)) for name in chancy.choices(state)]


def by_steps(chancy, ways, every):
    """Return a table of those of some states from which the goal is come to, to (name, steps), by the ways of each.

    A name leads on where every state that it may lead to does, or where one does; fewest steps, then as told.
    """
    ahead = {state: [] for state in ways}
    for state, rows in ways.items():
        for _, row in rows:
            for after in row:
                ahead[after].append(state)
    found = {}
    layer = {state: (None, 0) for state in ways if chancy.problem.is_goal(state)}
    steps = 0
    while layer != {}:
        for state, told in layer.items():
            found[state] = told
        steps += 1
        # Only what leads to a state of the last layer can lead on since then.
        near = {one: True for state in layer for one in ahead[state] if one not in found}
        layer = {}
        for state in near:
            names = [name for name, row in ways[state] if leads_in(row, found, every)]
            if names != []:
                layer[state] = (names[0], steps)
    return {state: found[state] for state in ways if state in found}


def leads_in(row, table, every):
    """Tell whether every state of a row is in a table, or whether one is."""
    if every:
        return all(state in table for state in row)
    return any(state in table for state in row)


def tried_on(chancy, most=500):
    """Return a table of states to (name, steps at best) by which, tried on, the goal is always still in reach; BadSize.

    (None, 0) stands for goals; only names that never lead out, fewest steps at best, then as told.
    """
    ways = {state: ways_of(chancy, state) for state in chancy.states(most)}
    alive = ways
    found = by_steps(chancy, kept_ways(ways, alive), False)
    # With a state that was left out, a name that led to it leads out, so that others may have to be left out too.
    while len(found) != len(alive):
        alive = found
        found = by_steps(chancy, kept_ways(ways, alive), False)
    return found


def best_steps(chancy, alive):
    """Return a table of those of a table of states from which the goal may be come to, to (name, steps at best).

    Only by names that never lead out of them; (None, 0) stands for goals.
    """
    ways = {state: ways_of(chancy, state) for state in alive}
    return by_steps(chancy, kept_ways(ways, alive), False)


def kept_ways(ways, alive):
    """Return the ways of each state of a table that never lead out of them."""
    return {state: [(name, row) for name, row in ways[state] if leads_in(row, alive, True)] for state in alive}


def policy(table, start):
    """Return the table of states to names of a table, goals left out; NoPlan where the start isn't there."""
    if tuple(start) not in table:
        raise NoPlan("the start isn't there")
    return {state: name for state, (name, _) in table.items() if name is not None}


def led_to(chancy, names, state):
    """Return the states that a policy may lead to from a state, none from a goal; BadPaper, BadDeed, NoSuch."""
    if chancy.problem.is_goal(state):
        return ()
    if state not in names:
        raise BadPaper("a state is missing")
    return chancy.after(state, names[state])


def come_to(chancy, names):
    """Return a table of the states that a policy may come to, to those right behind each; BadPaper, BadDeed, NoSuch."""
    found = {}
    row = [chancy.problem.start]
    place = 0
    while place < len(row):
        state = row[place]
        if state not in found:
            found[state] = led_to(chancy, names, state)
            row.extend(found[state])
        place += 1
    return found


def check_sure(chancy, names, ranks):
    """Return the greatest rank that a policy comes to; BadPaper, BadDeed, NoSuch.

    Each name leads only to goals or to states of lower ranks.
    """
    found = {}
    row = [chancy.problem.start]
    place = 0
    while place < len(row):
        state = row[place]
        if state not in found and not chancy.problem.is_goal(state):
            if state not in names or state not in ranks:
                raise BadPaper("a state is missing")
            found[state] = ranks[state]
            for after in chancy.after(state, names[state]):
                if not chancy.problem.is_goal(after) and not ranks.get(after, ranks[state]) < ranks[state]:
                    raise BadPaper("not lower")
                row.append(after)
        place += 1
    return max(found.values(), default=0)


def check_tried(chancy, names):
    """Return how many states a policy may come to, from each of which it may come to the goal.

    BadPaper, BadDeed, NoSuch.
    """
    found = come_to(chancy, names)
    ahead = {state: [] for state in found}
    for state, row in found.items():
        for after in row:
            ahead[after].append(state)
    good = all_ahead(ahead, [state for state in found if chancy.problem.is_goal(state)])
    if len(good) != len(found):
        raise BadPaper("stuck")
    return len(found)


def beaten(chancy, most=500):
    """Return the states, nearest first, from which no policy, tried on, keeps the goal in reach; BadSize."""
    found = tried_on(chancy, most)
    return tuple([state for state in chancy.states(most) if state not in found])


def outcomes(chancy, names, count):
    """Return the states that a policy may be in behind so many deeds, goals staying, in order; BadSize, BadPaper."""
    if count < 0:
        raise BadSize(f"less than nought: {count}")
    found = (chancy.problem.start,)
    for _ in range(count):
        rows = [led_to(chancy, names, state) or (state,) for state in found]
        found = tuple(sorted({state for row in rows for state in row}))
    return found
