"""Problems for the tests, and what is true of them, worked out in another way than the package does."""

import random
from itertools import combinations

from planwright.deeds import Deed, plain
from planwright.problems import Problem


def walk(rows, start, goal):
    """Return a problem of one fact at a time, by (name, from, to, cost) rows."""
    deeds = [plain(name, [one], [other], [one], cost) for name, one, other, cost in rows]
    return Problem([start], deeds, [goal])


def chain(count):
    """Return a problem whose states are a row of so many, s0 and so on, the goal the last."""
    return walk([("d%d" % k, "s%d" % k, "s%d" % (k + 1), 1) for k in range(count - 1)], "s0", "s%d" % (count - 1))


def wheels(sizes, goal=()):
    """Return a problem of wheels that turn one step at a time: its states are as many as their sizes' product."""
    deeds = []
    for wheel, size in enumerate(sizes):
        for k in range(size):
            here, there = "w%d-%d" % (wheel, k), "w%d-%d" % (wheel, (k + 1) % size)
            deeds.append(plain("turn" + here, [here], [there], [here]))
    return Problem(["w%d-0" % wheel for wheel in range(len(sizes))], deeds, goal)


def lamp():
    """Return a problem of a lamp in a room: one way in, one way to break it, and wings that nobody has."""
    return Problem(
        ["out"],
        [
            Deed("go", ["out"], [], ["in"], ["out"], 2),
            Deed("light", ["in"], ["broken"], ["lit"], [], 0),
            Deed("break", ["in"], [], ["broken"], ["lit"], 1),
            Deed("fly", ["wings"], [], ["lit"], [], 9),
        ],
        ["lit"],
        ["broken"],
    )


def rand_problem(seed, many=6, deeds=8):
    """Return one of many small problems, the same for the same seed; most have some states."""
    rand = random.Random(seed)
    problem = made_at_random(rand, many, deeds)
    while seed % 5 != 0 and len(edges(problem)) < 4:
        problem = made_at_random(rand, many, deeds)
    return problem


def made_at_random(rand, many, deeds):
    """Return a problem of so many facts and deeds."""
    names = ["f%d" % k for k in range(many)]

    def some(least, most):
        return rand.sample(names, rand.randint(least, most))

    made = []
    for place in range(deeds):
        needs = some(0, 2) if rand.randint(0, 3) == 0 else some(1, 2)
        barred = [fact for fact in some(0, 1) if fact not in needs and rand.randint(0, 1) == 0]
        drops = [fact for fact in needs if rand.randint(0, 1) == 0] + some(0, 1)
        made.append(Deed("d%d" % place, needs, barred, some(1, 2), drops, rand.choice([0, 1, 1, 2, 3, 5])))
    goal = some(1, 3)
    barred = [fact for fact in some(0, 1) if fact not in goal and rand.randint(0, 1) == 0]
    return Problem(some(1, 2), made, goal, barred)


def behind(state, deed):
    """Return the state behind a deed, None where it can't be done."""
    there = set(state)
    if not set(deed.needs) <= there or set(deed.bars) & there:
        return None
    return tuple(sorted((there - set(deed.drops)) | set(deed.adds)))


def meets(problem, state):
    """Tell whether a state is a goal."""
    return set(problem.goal) <= set(state) and not set(problem.bars) & set(state)


def edges(problem, start=None):
    """Return a dict of all states that can be come to to the (deed, state behind it) rows of each."""
    found, left = {}, [problem.start if start is None else start]
    while left:
        state = left.pop(0)
        if state not in found:
            rows = [(deed, behind(state, deed)) for deed in problem.deeds.values()]
            found[state] = [(deed, after) for deed, after in rows if after is not None]
            left.extend(after for _, after in found[state])
    return found


def true_costs(problem, start=None):
    """Return a dict of all states that can be come to to the least cost to a goal, None for none."""
    graph = edges(problem, start)
    costs = {state: 0 if meets(problem, state) else None for state in graph}
    for _ in graph:
        for state, rows in graph.items():
            for deed, after in rows:
                if costs[after] is not None and (costs[state] is None or deed.cost + costs[after] < costs[state]):
                    costs[state] = deed.cost + costs[after]
    return costs


def least_steps(problem):
    """Return how many deeds the shortest plan has, None for none."""
    there, seen, steps = {problem.start}, set(), 0
    while there:
        if any(meets(problem, state) for state in there):
            return steps
        seen |= there
        there = {
            after for state in there for deed in problem.deeds.values()
            for after in [behind(state, deed)] if after is not None and after not in seen
        }
        steps += 1
    return None


def relaxed_facts(problem, state, names):
    """Return the set of facts that some deeds come to where they drop and bar nothing."""
    there = set(state)
    for _ in names:
        for name in names:
            if set(problem.deeds[name].needs) <= there:
                there |= set(problem.deeds[name].adds)
    return there


def subsets(row):
    """Return all lots of a row, fewer ones first, then as they stand."""
    return [lot for size in range(len(row) + 1) for lot in combinations(row, size)]


def kinds(value):
    """Return the kinds of a value and of all rows within it, so that a list is told from a tuple."""
    if isinstance(value, (list, tuple)):
        return (type(value), [kinds(one) for one in value])
    return type(value)
