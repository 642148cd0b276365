"""Searches: cheapest plans by several ways, forward and backward, and papers by a height for each state."""

from heapq import heappop, heappush

from planwright.deeds import back_from
from planwright.errors import BadPaper, BadSize, NoPlan
from planwright.problems import reached, way_to


def cheapest(problem, most=2000, height=None):
    """Return (cost, plan), the cheapest; NoPlan, BadSize.

    States are taken by cost and height, if a function of heights is told, then as they came.
    """
    costs = {problem.start: 0}
    found = {problem.start: None}
    left = queued([], 0, 0, problem.start, height)
    count = 0
    while left != []:
        state = left[0][2]
        left = left[1:]
        if problem.is_goal(state):
            return (costs[state], way_to(found, state))
        for deed in problem.choices(state):
            after = deed.done(state)
            if after not in costs and len(costs) == most:
                raise BadSize("too many states")
            if after not in costs or costs[state] + deed.cost < costs[after]:
                count += 1
                costs[after] = costs[state] + deed.cost
                found[after] = (deed.name, state)
                left = queued(left, costs[after], count, after, height)
    raise NoPlan("no plan comes to the goal")


def queued(left, cost, count, state, height):
    """Return a row with a state put in by its cost and height, none for a height of None.

    The rows within are (cost and height, count, state), in order; without a function of heights, cost alone tells the
    place.
    """
    rows = list(left)
    more = 0 if height is None else height(state)
    if more is None:
        return rows
    row = (cost + more, count, state)
    low, high = 0, len(rows)
    while low < high:
        middle = (low + high) // 2
        if rows[middle][:2] < row[:2]:
            low = middle + 1
        else:
            high = middle
    return rows[:low] + [row] + rows[low:]


def fewest(problem, most=2000):
    """Return a plan of the fewest deeds, the first come to; NoPlan, BadSize."""
    table = reached(problem, most)
    for state in table:
        if problem.is_goal(state):
            return way_to(table, state)
    raise NoPlan("no plan comes to the goal")


def all_costs(problem, most=2000):
    """Return a table of the states come to to the least cost from each to the goal, None for none; BadSize."""
    states = list(reached(problem, most))
    ahead = {state: [] for state in states}
    for state in states:
        for deed in problem.choices(state):
            ahead[deed.done(state)].append((state, deed.cost))
    costs = costs_back(ahead, {state: 0 for state in states if problem.is_goal(state)})
    return {state: costs.get(state) for state in states}


def costs_back(ahead, ends):
    """Return a table of states to the least costs from them to an end, with what it costs to end there.

    The tables handed in lead from each state to the (state, cost) rows of deeds that lead to it, and from each end to
    its cost.
    """
    costs = {state: cost for state, cost in ends.items()}
    left = []
    for state, cost in ends.items():
        heappush(left, (cost, state))
    while left != []:
        cost, behind = heappop(left)
        if cost == costs[behind]:
            for state, more in ahead[behind]:
                if state not in costs or cost + more < costs[state]:
                    costs[state] = cost + more
                    heappush(left, (cost + more, state))
    return costs


def check_heights(problem, heights, plan):
    """Return the cost of a plan that heights show cheapest; BadPaper, BadPlan, BadDeed, NoSuch.

    All states come to are there, goals at nought, none lower by more than the cost of a deed, None where no deed leads
    to another.
    """
    cost = problem.check(plan)
    if problem.start not in heights:
        raise BadPaper("the start is missing")
    for state, height in heights.items():
        if problem.is_goal(state) and height != 0:
            raise BadPaper("a goal isn't at nought")
        for deed in problem.choices(state):
            check_step(heights, height, deed, deed.done(state))
    if heights[problem.start] != cost:
        raise BadPaper("not the least cost")
    return cost


def check_step(heights, height, deed, after):
    """Check the height of the state behind a deed, by the height ahead of it; BadPaper."""
    if after not in heights:
        raise BadPaper("a state is missing")
    if heights[after] is not None and (height is None or height > heights[after] + deed.cost):
        raise BadPaper(f"too steep: {deed.name}")


def check_none(problem, states):
    """Return how many states a paper of no plan has: the start, no goal, all that deeds lead to; BadPaper."""
    table = {tuple(state): True for state in states}
    if problem.start not in table:
        raise BadPaper("the start is missing")
    for state in table:
        if problem.is_goal(state):
            raise BadPaper("a goal is there")
        for deed in problem.choices(state):
            if deed.done(state) not in table:
                raise BadPaper(f"leads out: {deed.name}")
    return len(table)


def backward(problem, most=2000):
    """Return (cost, plan) of a cheapest plan by going back from the goal's facts; NoPlan, BadSize.

    The rows that are searched are (needed, barred) facts.
    """
    goal = (problem.goal, problem.bars)
    costs = {goal: 0}
    found = {goal: None}
    left = queued([], 0, 0, goal, None)
    count = 0
    while left != []:
        row = left[0][2]
        left = left[1:]
        if is_met(problem.start, row):
            return (costs[row], way_to(found, row)[::-1])
        for deed in problem.deeds.values():
            ahead = back_from(row[0], row[1], deed)
            if ahead is None:
                continue
            if ahead not in costs and len(costs) == most:
                raise BadSize("too many rows")
            if ahead not in costs or costs[row] + deed.cost < costs[ahead]:
                count += 1
                costs[ahead] = costs[row] + deed.cost
                found[ahead] = (deed.name, row)
                left = queued(left, costs[ahead], count, ahead, None)
    raise NoPlan("no plan comes to the goal")


def is_met(state, row):
    """Tell whether a state has a (needed, barred) row's needed facts and none of its barred ones."""
    needs, bars = row
    return all(fact in state for fact in needs) and not any(fact in state for fact in bars)


def eager(problem, height, most=2000):
    """Return a plan by always going on where a height is least, first come first, None ones never; NoPlan, BadSize."""
    froms = {problem.start: None}
    left = queued([], 0, 0, problem.start, height)
    while left != []:
        state = left[0][2]
        left = left[1:]
        if problem.is_goal(state):
            return way_to(froms, state)
        for deed in problem.choices(state):
            after = deed.done(state)
            if after not in froms:
                if len(froms) == most:
                    raise BadSize("too many states")
                froms[after] = (deed.name, state)
                left = queued(left, 0, len(froms), after, height)
    raise NoPlan("no plan comes to the goal")


def all_plans(problem, count):
    """Return all plans of up to so many deeds, none going on behind a goal; BadSize below nought or past eight.

    Shorter ones come first, then as deeds were told.
    """
    if not 0 <= count < 9:
        raise BadSize(f"not from nought to eight: {count}")
    found = []
    table = {}
    for size in range(count + 1):
        found.extend(plans_from(problem, problem.start, size, table))
    return tuple(found)


def plans_from(problem, state, size, table):
    """Return the plans of just so many deeds from a state, none going on behind a goal; the table keeps them."""
    if (state, size) not in table:
        found = []
        if size == 0 and problem.is_goal(state):
            found.append(())
        if size > 0 and not problem.is_goal(state):
            for deed in problem.choices(state):
                for rest in plans_from(problem, deed.done(state), size - 1, table):
                    found.append((deed.name,) + rest)
        table[(state, size)] = found
    return table[(state, size)]
