"""Layers: facts and deeds step by step, what can't go together in each, and plans of deeds side by side."""

from planwright.deeds import are_free, facts, may_swap
from planwright.errors import BadDeed, BadPlan, BadSize, NoPlan

WAIT = "wait:"


class Layers:
    """Layers of facts and deeds from the start on, with the pairs that can't go together in each; a fact may wait."""

    def __init__(self, problem, count):
        if not 0 <= count < 13:
            raise BadSize(f"not from nought to twelve: {count}")
        self.problem = problem
        self.facts = [problem.start]
        self.barred = [{}]
        self.deeds = []
        self.apart = []
        for _ in range(count):
            self.add()

    def add(self):
        """Put one layer of deeds and one of facts behind the last."""
        there, barred = self.facts[-1], self.barred[-1]
        names = [deed.name for deed in self.problem.deeds.values() if self.may(deed, there, barred)]
        names.extend([WAIT + fact for fact in there])
        apart = {}
        for place, one in enumerate(names):
            for other in names[:place]:
                if not self.go(one, other, barred):
                    apart[(one, other)] = True
                    apart[(other, one)] = True
        behind = facts([fact for name in names for fact in self.adds_of(name)])
        self.deeds.append(tuple(names))
        self.apart.append(apart)
        self.facts.append(behind)
        self.barred.append(self.pairs_behind(behind, names, apart))

    def may(self, deed, there, barred):
        """Tell whether a deed's needs are there and no two of them can't go together."""
        return all(fact in there for fact in deed.needs) and not any_pair(deed.needs, deed.needs, barred)

    def go(self, one, other, barred):
        """Tell whether two names may go side by side."""
        return self.are_free(one, other) and not any_pair(self.needs_of(one), self.needs_of(other), barred)

    def needs_of(self, name):
        """Return a name's needs: a waiting fact needs itself."""
        return (waiting(name),) if name.startswith(WAIT) else self.problem.deed(name).needs

    def adds_of(self, name):
        """Return what a name adds: a waiting fact adds itself."""
        return (waiting(name),) if name.startswith(WAIT) else self.problem.deed(name).adds

    def are_free(self, one, other):
        """Tell whether neither of two names takes away what the other needs or adds, nor adds what it bars."""
        if one.startswith(WAIT) and other.startswith(WAIT):
            return True
        if one.startswith(WAIT):
            return lets_wait(self.problem.deed(other), waiting(one))
        if other.startswith(WAIT):
            return lets_wait(self.problem.deed(one), waiting(other))
        return are_free(self.problem.deed(one), self.problem.deed(other))

    def pairs_behind(self, there, names, apart):
        """Return the table of pairs of facts whose adders all can't go together."""
        adders = {fact: [name for name in names if fact in self.adds_of(name)] for fact in there}
        found = {}
        for place, one in enumerate(there):
            for other in there[:place]:
                if all((name, beside) in apart for name in adders[one] for beside in adders[other]):
                    found[(one, other)] = True
                    found[(other, one)] = True
        return found

    def holds(self, place):
        """Tell whether the goal's facts are in a layer, no two of them apart; BadSize."""
        if not 0 <= place < len(self.facts):
            raise BadSize(f"no layer: {place}")
        goal = self.problem.goal
        return all(fact in self.facts[place] for fact in goal) and not any_pair(goal, goal, self.barred[place])

    def is_level(self):
        """Tell whether the last two layers have the same facts and pairs."""
        return len(self.facts) > 1 and self.facts[-1] == self.facts[-2] and self.barred[-1] == self.barred[-2]

    def shown(self):
        """Return, for each layer, (facts, pairs apart in order, both ways about)."""
        return tuple([(there, tuple(sorted(barred))) for there, barred in zip(self.facts, self.barred)])


def waiting(name):
    """Return the fact of a waiting fact's name."""
    return name[len(WAIT):]


def lets_wait(deed, fact):
    """Tell whether a fact may wait beside a deed."""
    return fact not in deed.drops and fact not in deed.bars


def any_pair(row, others, table):
    """Tell whether one of a row and one of others are a pair of a table."""
    return any((one, other) in table for one in row for other in others)


def first_layer(problem, most=12):
    """Return the first layer in which the goal holds, None where the layers come to stay without it; BadSize."""
    layers = Layers(problem, 0)
    while not layers.holds(len(layers.deeds)):
        if layers.is_level():
            return None
        if len(layers.deeds) == most:
            raise BadSize("too many layers")
        layers.add()
    return len(layers.deeds)


def check_rows(problem, rows):
    """Return how many deeds rows of names side by side have that come to the goal; BadPlan, BadDeed, NoSuch."""
    state = problem.start
    count = 0
    for row in rows:
        state = behind_row(problem, state, row)
        count += len(row)
    if not problem.is_goal(state):
        raise BadPlan("the goal isn't come to")
    return count


def behind_row(problem, state, row):
    """Return the state behind a row of names side by side; BadPlan, BadDeed, NoSuch."""
    deeds = [problem.deed(name) for name in row]
    for place, one in enumerate(deeds):
        if not all(are_free(one, other) for other in deeds[:place]):
            raise BadPlan(f"not free: {one.name}")
    # Side by side, none waits for what another one of the row gives.
    if not all(deed.fits(state) for deed in deeds):
        raise BadDeed("can't be done side by side")
    return behind_all(deeds, state)


def behind_all(deeds, state):
    """Return the state behind some free deeds."""
    behind = state
    for deed in deeds:
        behind = deed.done(behind)
    return behind


def side_by_side(problem, plan):
    """Return rows of a plan's deeds, each as early as those ahead that it can't be swapped with let it be.

    BadPlan, BadDeed or NoSuch for a plan that doesn't come to the goal.
    """
    problem.check(plan)
    rows = []
    for name in plan:
        place = place_of(problem, rows, name)
        if place == len(rows):
            rows.append([])
        rows[place].append(name)
    return tuple([tuple(row) for row in rows])


def place_of(problem, rows, name):
    """Return the place behind the last row with a deed that can't be swapped with a name's, or has its name."""
    deed = problem.deed(name)
    place = len(rows)
    while place > 0 and all(one != name and may_swap(problem.deed(one), deed) for one in rows[place - 1]):
        place -= 1
    return place


def fewest_rows(problem, most=6):
    """Return rows of names side by side, as few rows as can be; NoPlan, BadSize.

    States are gone through row by row, by all lots of free deeds.
    """
    if not 0 <= most < 9:
        raise BadSize(f"not from nought to eight: {most}")
    found = {problem.start: ()}
    left = [problem.start]
    for count in range(most + 1):
        if count > 0:
            left = row_further(problem, left, found)
        goals = [state for state in left if problem.is_goal(state)]
        if goals != []:
            return found[goals[0]]
    raise NoPlan("no so few rows come to the goal")


def row_further(problem, states, found):
    """Return the states first come to by one more row, put in a table of states to the rows ahead of them."""
    behind = []
    for state in states:
        for lot in free_lots(problem, problem.choices(state)):
            after = behind_all(lot, state)
            if after not in found:
                found[after] = found[state] + (tuple([deed.name for deed in lot]),)
                behind.append(after)
    return behind


def free_lots(problem, deeds):
    """Return all lots of deeds, any two free, bare ones aside, as they were told."""
    found = []
    for deed in deeds:
        # A lot comes ahead of all that hold it, so that no deed stands in a row for nothing.
        found = found + [lot + (deed,) for lot in [()] + found if all(are_free(one, deed) for one in lot)]
    return found
