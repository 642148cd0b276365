"""Problems: a start, deeds and a goal; plans, what they come to and cost, and the states that can be come to."""

from planwright.deeds import facts
from planwright.errors import BadDeed, BadPlan, BadSize, NoSuch


class Problem:
    """Facts at the start, deeds of names each once, and facts of the goal, and facts that the goal bars."""

    def __init__(self, start, deeds, goal, bars=()):
        self.start = facts(start)
        self.deeds = {deed.name: deed for deed in deeds}
        self.goal = facts(goal)
        self.bars = facts(bars)
        if len(self.deeds) != len(deeds):
            raise BadDeed("two deeds of one name")
        if any(fact in self.bars for fact in self.goal):
            raise BadPlan("the goal bars what it asks")

    def deed(self, name):
        """Return a name's deed; NoSuch."""
        if name not in self.deeds:
            raise NoSuch(f"no deed: {name}")
        return self.deeds[name]

    def is_goal(self, state):
        """Tell whether a state is one of the goal's."""
        return all(fact in state for fact in self.goal) and not any(fact in state for fact in self.bars)

    def choices(self, state):
        """Return the deeds that can be done in a state, as they were told."""
        return tuple([deed for deed in self.deeds.values() if deed.fits(state)])

    def states_of(self, plan):
        """Return the states of a plan, the start first; BadDeed, NoSuch."""
        states = [self.start]
        for name in plan:
            states.append(self.deed(name).done(states[-1]))
        return tuple(states)

    def cost_of(self, plan):
        """Return what a plan costs; NoSuch."""
        return sum([self.deed(name).cost for name in plan])

    def check(self, plan):
        """Return what a plan costs that comes to the goal; BadPlan, BadDeed, NoSuch."""
        if not self.is_goal(self.states_of(plan)[-1]):
            raise BadPlan("the goal isn't come to")
        return self.cost_of(plan)

    def all_facts(self):
        """Return all facts that are told, in order."""
        told = list(self.start + self.goal + self.bars)
        for deed in self.deeds.values():
            told.extend(deed.needs + deed.bars + deed.adds + deed.drops)
        return facts(told)

    def shown(self):
        """Return (start, deeds shown, goal, barred)."""
        return (self.start, tuple([deed.shown() for deed in self.deeds.values()]), self.goal, self.bars)


def reached(problem, most=2000):
    """Return a table of all states come to, the nearest first, to the (name of the deed, state) ahead of each.

    None stands for the start; BadSize past a count of states.
    """
    found = {}
    put_in(found, problem.start, None, most)
    states = [problem.start]
    place = 0
    while place < len(states):
        state = states[place]
        for deed in problem.choices(state):
            after = deed.done(state)
            if after not in found:
                put_in(found, after, (deed.name, state), most)
                states.append(after)
        place += 1
    return found


def put_in(found, state, ahead, most):
    """Put a state that was come to in a table, with what is ahead of it; BadSize past a count."""
    if len(found) >= most:
        raise BadSize("too many states")
    found[state] = ahead


def way_to(table, state):
    """Return the plan by which a table came to a state; NoSuch."""
    here = tuple(state)
    if here not in table:
        raise NoSuch("not come to")
    names = []
    while table[here] is not None:
        name, here = table[here]
        names.append(name)
    return tuple(names[::-1])


def without(problem, names):
    """Return a problem without some deeds; NoSuch for a name not there."""
    gone = [problem.deed(name).name for name in names]
    kept = [deed for deed in problem.deeds.values() if deed.name not in gone]
    return Problem(problem.start, kept, problem.goal, problem.bars)


def with_goal(problem, goal, bars=()):
    """Return a problem with another goal; BadFact, BadPlan."""
    return Problem(problem.start, list(problem.deeds.values()), goal, bars)


def from_state(problem, start):
    """Return a problem from another start; BadFact."""
    return Problem(start, list(problem.deeds.values()), problem.goal, problem.bars)


def shorter(problem, plan):
    """Return a plan without deeds that can be left out, the first one first, till none can.

    BadPlan, BadDeed or NoSuch for a plan that doesn't come to the goal.
    """
    problem.check(plan)
    names = tuple(plan)
    place = 0
    while place < len(names):
        rest = names[:place] + names[place + 1:]
        if comes(problem, rest):
            names = rest
            # A deed further ahead may have hung on the one that went.
            place = 0
        else:
            place += 1
    return names


def comes(problem, plan):
    """Tell whether a plan can be done and comes to the goal."""
    try:
        problem.check(plan)
    except (BadPlan, BadDeed, NoSuch):
        return False
    return True


def useless(problem, most=2000):
    """Return the names of deeds that can be done in no state come to, as they were told; BadSize."""
    states = list(reached(problem, most))
    return tuple([deed.name for deed in problem.deeds.values() if not any(deed.fits(state) for state in states)])


def dead_ends(problem, most=2000):
    """Return the states come to from which the goal isn't, the nearest first; BadSize."""
    states = list(reached(problem, most))
    ahead = {state: [] for state in states}
    for state in states:
        for deed in problem.choices(state):
            ahead[deed.done(state)].append(state)
    alive = all_ahead(ahead, [state for state in states if problem.is_goal(state)])
    return tuple([state for state in states if state not in alive])


def all_ahead(ahead, goals):
    """Return a table of some states and all that lead to them, by a table of states to those right ahead."""
    found = {state: True for state in goals}
    left = list(goals)
    while left != []:
        behind = left.pop()
        for state in ahead[behind]:
            if state not in found:
                found[state] = True
                left.append(state)
    return found
