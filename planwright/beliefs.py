"""Beliefs: several states that may be, deeds done in all of them, and plans that come to the goal from each."""

from planwright.deeds import Deed, facts
from planwright.errors import BadDeed, BadPlan, BadSize, NoPlan
from planwright.problems import put_in, way_to


def check_states(states):
    """Return states in order, each once, one or more; BadPlan, BadFact."""
    found = tuple(sorted({facts(state) for state in states}))
    if found == ():
        raise BadPlan("no states")
    return found


def done_in_all(states, deed):
    """Return the states behind a deed, in order; BadDeed where it can't be done in one, BadPlan, BadFact."""
    return check_states([deed.done(state) for state in check_states(states)])


def known(states):
    """Return the facts of all states, in order; BadPlan, BadFact."""
    rows = check_states(states)
    return tuple([fact for fact in rows[0] if all(fact in row for row in rows)])


def open_facts(states):
    """Return the facts of some states but not of all, in order; BadPlan, BadFact."""
    sure = known(states)
    return facts([fact for state in states for fact in state if fact not in sure])


def all_goals(problem, states):
    """Tell whether all states are the goal's."""
    return all(problem.is_goal(state) for state in states)


def fit_all(problem, states):
    """Return the deeds that can be done in all states, as they were told."""
    return [deed for deed in problem.deeds.values() if all(deed.fits(state) for state in states)]


def blind_plan(problem, states, most=500):
    """Return a plan of the fewest deeds, each done in all states, that comes to the goal from each; NoPlan, BadSize."""
    here = check_states(states)
    found = {}
    put_in(found, here, None, most)
    left = [here]
    place = 0
    while place < len(left):
        here = left[place]
        if all_goals(problem, here):
            return way_to(found, here)
        for deed in fit_all(problem, here):
            after = done_in_all(here, deed)
            if after not in found:
                put_in(found, after, (deed.name, here), most)
                left.append(after)
        place += 1
    raise NoPlan("no plan comes to the goal from all states")


def check_blind(problem, states, plan):
    """Return what a plan costs that comes to the goal from all states; BadPlan, BadDeed, NoSuch."""
    here = check_states(states)
    for name in plan:
        here = done_in_all(here, problem.deed(name))
    if not all_goals(problem, here):
        raise BadPlan("the goal isn't come to from all states")
    return problem.cost_of(plan)


def looked(states, fact):
    """Return (states with a fact, states without), in order; BadPlan, BadFact."""
    rows = check_states(states)
    return (tuple([row for row in rows if fact in row]), tuple([row for row in rows if fact not in row]))


def looking_plan(problem, states, looks, depth):
    """Return a plan of the least depth that may look at some facts, None for none so deep; BadSize, BadPlan.

    A plan is (), (name, plan), or ("look", fact, plan with, plan without); deeds as told come first, then looks.
    """
    if depth < 0:
        raise BadSize(f"less than nought: {depth}")
    here = check_states(states)
    none = {}
    for deep in range(depth + 1):
        plan = plan_unless(problem, here, looks, deep, none)
        if plan is not None:
            return plan
    return None


def plan_so_deep(problem, states, looks, depth):
    """Return a looking plan of a depth at most, None for none: deeds as told come first, then looks."""
    return plan_unless(problem, states, looks, depth, {})


def plan_unless(problem, states, looks, depth, none):
    """Return a looking plan of a depth at most, None for none.

    The table keeps how deep there is none, by states, so that none is sought there again.
    """
    if all_goals(problem, states):
        return ()
    here = check_states(states)
    if depth <= none.get(here, 0):
        return None
    for deed in fit_all(problem, here):
        rest = plan_unless(problem, done_in_all(here, deed), looks, depth - 1, none)
        if rest is not None:
            return (deed.name, rest)
    for fact in looks:
        rows = looked(here, fact)
        # A look at what is known tells nothing.
        if () not in rows:
            plans = [plan_unless(problem, row, looks, depth - 1, none) for row in rows]
            if None not in plans:
                return ("look", fact) + tuple(plans)
    none[here] = depth
    return None


def check_looking(problem, states, plan):
    """Return the greatest cost of a looking plan that comes to the goal from all states; BadPlan, BadDeed, NoSuch.

    What it does where a look at a known fact never leads isn't asked.
    """
    rows = tuple(states)
    cost = 0
    while len(plan) == 2:
        name, plan = plan
        rows = done_in_all(rows, problem.deed(name))
        cost += problem.deed(name).cost
    if len(plan) == 4:
        sides = [side for side in zip(looked(rows, plan[1]), plan[2:]) if side[0] != ()]
        return cost + max([check_looking(problem, row, rest) for row, rest in sides])
    if not all_goals(problem, rows):
        raise BadPlan("the goal isn't come to from all states")
    return cost


def run_looking(problem, state, plan):
    """Return the plan of deeds that a looking plan does from a state; BadDeed, NoSuch, BadFact."""
    here = facts(state)
    names = []
    while len(plan) > 0:
        if len(plan) == 4:
            plan = plan[2] if plan[1] in here else plan[3]
        else:
            name, plan = plan
            here = problem.deed(name).done(here)
            names.append(name)
    return tuple(names)


def split_deed(deed, fact, adds, drops):
    """Return two deeds, "-with" and "-without" behind the name; BadDeed where the fact is needed or barred, BadFact.

    The one needs the fact too, and adds and drops more; the other bars it.
    """
    if fact in deed.needs or fact in deed.bars:
        raise BadDeed(f"needed or barred: {fact}")
    more_adds, more_drops = list(deed.adds) + list(adds), list(deed.drops) + list(drops)
    there = Deed(deed.name + "-with", list(deed.needs) + [fact], deed.bars, more_adds, more_drops, deed.cost)
    gone = Deed(deed.name + "-without", deed.needs, list(deed.bars) + [fact], deed.adds, deed.drops, deed.cost)
    return (there, gone)


def depth_of_plan(plan):
    """Return how deep a looking plan is: how many deeds and looks stand behind each other at most."""
    deep = 0
    while len(plan) == 2:
        deep += 1
        plan = plan[1]
    if len(plan) == 4:
        return deep + 1 + max([depth_of_plan(rest) for rest in plan[2:]])
    return deep
