"""Wishes: facts that are worth something at the end, which to come to for the most, and what a plan leaves."""

from planwright.deeds import facts
from planwright.errors import BadPlan, BadSize, NoPlan
from planwright.problems import with_goal
from planwright.searches import all_costs, cheapest, costs_back, queued


def worth_of(worths, state):
    """Return the sum of the worths of a state's facts."""
    return sum([worths.get(fact, 0) for fact in state])


def gain_of(problem, worths, plan):
    """Return what a plan leaves: the worths of the state behind it less its cost; BadPlan, BadDeed, NoSuch.

    The goal must be come to.
    """
    cost = problem.check(plan)
    return worth_of(worths, problem.states_of(plan)[-1]) - cost


def best_gain(problem, worths, most=500):
    """Return (gain, plan) of the most that a plan leaves; NoPlan, BadSize.

    Cheapest to its state, nearest state first.
    """
    best = None
    for state, (cost, plan) in costs_to(problem, most).items():
        gain = worth_of(worths, state) - cost
        if problem.is_goal(state) and (best is None or gain > best[0]):
            best = (gain, plan)
    if best is None:
        raise NoPlan("no plan comes to the goal")
    return best


def costs_to(problem, most=500):
    """Return a table of the states that can be come to to (least cost, plan), cheapest first, then as they came.

    BadSize past a count of them.
    """
    costs, plans, found = {problem.start: 0}, {problem.start: ()}, {}
    left = queued([], 0, 0, problem.start, None)
    count = 0
    while left != []:
        cost, _, state = left[0]
        left = left[1:]
        if state in found:
            continue
        if len(found) == most:
            raise BadSize("too many states")
        found[state] = (cost, plans[state])
        for deed in problem.choices(state):
            after = deed.done(state)
            if after not in costs or cost + deed.cost < costs[after]:
                count += 1
                costs[after] = cost + deed.cost
                plans[after] = plans[state] + (deed.name,)
                left = queued(left, costs[after], count, after, None)
    return found


def within_cost(problem, worths, budget, most=500):
    """Return (worth, cost, plan) of the most that can be come to for no more than a cost; NoPlan, BadSize.

    Cheapest, nearest first; the goal must be come to.
    """
    if budget < 0:
        raise BadSize(f"less than nought: {budget}")
    best = None
    for state, (cost, plan) in costs_to(problem, most).items():
        worth = worth_of(worths, state)
        if problem.is_goal(state) and cost <= budget and (best is None or worth > best[0]):
            best = (worth, cost, plan)
    if best is None:
        raise NoPlan("no plan comes to the goal for so much")
    return best


def all_lots(problem, wanted, most=500):
    """Return a table of lots, in order, of wanted facts, in order, to the least costs; BadSize, BadFact.

    A lot is all wanted facts of a state of the goal that can be come to.
    """
    row = facts(wanted)
    found = {}
    for state, (cost, _) in costs_to(problem, most).items():
        lot = tuple([fact for fact in row if fact in state])
        if problem.is_goal(state) and lot not in found:
            found[lot] = cost
    return {lot: found[lot] for lot in sorted(found)}


def check_gain(problem, worths, plan, heights):
    """Return what a plan leaves, shown most by a height for each state; BadPlan, BadDeed, NoSuch.

    The start's height is what it leaves; no goal's worth, and no state behind a deed less its cost, is above.
    """
    gain = gain_of(problem, worths, plan)
    if heights.get(problem.start) != gain:
        raise BadPlan("the plan leaves another gain")
    for state, height in heights.items():
        if problem.is_goal(state) and (height is None or height < worth_of(worths, state)):
            raise BadPlan("too low for a goal")
        for deed in problem.choices(state):
            check_fall(heights, height, deed, deed.done(state))
    return gain


def check_fall(heights, height, deed, after):
    """Check the height ahead of a deed, by that of the state behind it; BadPlan."""
    if after not in heights:
        raise BadPlan("a state is missing")
    if heights[after] is not None and (height is None or height < heights[after] - deed.cost):
        raise BadPlan(f"too low: {deed.name}")


def gain_heights(problem, worths, most=500):
    """Return a table of the states that can be come to to the most that is left from each on; BadSize.

    None where the goal can't be come to.
    """
    states = list(all_costs(problem, most))
    ahead = {state: [] for state in states}
    for state in states:
        for deed in problem.choices(state):
            ahead[deed.done(state)].append((state, deed.cost))
    # What an end is worth is what it costs the less to end there.
    costs = costs_back(ahead, {state: -worth_of(worths, state) for state in states if problem.is_goal(state)})
    return {state: -costs[state] if state in costs else None for state in states}


def with_wish(problem, fact):
    """Return a problem whose goal has a fact more; BadFact, BadPlan."""
    return with_goal(problem, problem.goal + (fact,), problem.bars)


def dear(problem, fact, most=500):
    """Return how much more the goal costs with a fact, None where it can't be come to with it; NoPlan, BadSize."""
    cost = cheapest(problem, most)[0]
    try:
        return cheapest(with_wish(problem, fact), most)[0] - cost
    except (NoPlan, BadPlan):
        # A goal that bars the fact can't be come to with it either.
        return None
