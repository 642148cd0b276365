"""Pairs: facts that can't be together, heights by pairs, and lots of which just one holds."""

from planwright.deeds import facts
from planwright.errors import BadPaper


def pair_costs(problem, state):
    """Return a table of pairs of facts, in order, alike ones too, that may be come to together, to least costs."""
    table = {(one, other): 0 for one in state for other in state if one <= other}
    again = True
    while again:
        again = False
        for deed in problem.deeds.values():
            base = row_cost(table, deed.needs)
            if base is not None:
                for pair, cost in after_pairs(table, deed, base).items():
                    if pair not in table or cost < table[pair]:
                        table[pair] = cost
                        again = True
    return table


def in_pair(one, other):
    """Return two facts as a pair, in order."""
    return (one, other) if one <= other else (other, one)


def pairs_of(row):
    """Return the pairs of a row's facts, alike ones too."""
    return [in_pair(one, other) for place, one in enumerate(row) for other in row[place:]]


def facts_in(table):
    """Return the facts that are pairs with themselves in a table, in order."""
    return sorted([one for one, other in table if one == other])


def row_cost(table, row):
    """Return the most of a row's pairs' costs, nought for none, None where one isn't there."""
    pairs = pairs_of(row)
    if any(pair not in table for pair in pairs):
        return None
    return max([table[pair] for pair in pairs], default=0)


def after_pairs(table, deed, base):
    """Return a table of the pairs that a deed makes or takes along to their costs; base is what its needs cost."""
    found = {pair: deed.cost + base for pair in pairs_of(deed.adds)}
    gone = deed.adds + deed.drops + deed.bars
    for other in [fact for fact in facts_in(table) if fact not in gone]:
        ahead = row_cost(table, facts(list(deed.needs) + [other]))
        if ahead is not None:
            for one in deed.adds:
                found[in_pair(one, other)] = deed.cost + ahead
    return found


def height_by_pairs(problem, state):
    """Return the most that a pair of the goal's facts costs, None where one can't be come to."""
    return row_cost(pair_costs(problem, state), problem.goal)


def apart(problem):
    """Return the pairs of facts, each may be come to, that never are together, as far as pairs show, in order."""
    table = pair_costs(problem, problem.start)
    return tuple([pair for pair in pairs_of(facts_in(table)) if pair not in table])


def never(problem):
    """Return the told facts that never are come to, as far as pairs show, in order."""
    table = pair_costs(problem, problem.start)
    return tuple([fact for fact in problem.all_facts() if (fact, fact) not in table])


def check_apart(problem, rows, none=()):
    """Return how many pairs a paper has, with facts, of which none starts or is made by a deed that isn't stopped.

    Stopped is a deed that needs such a pair or fact; BadPaper.
    """
    table = {in_pair(one, other): True for one, other in rows}
    if any(one in problem.start and other in problem.start for one, other in table):
        raise BadPaper("a pair starts")
    if any(fact in problem.start for fact in none):
        raise BadPaper("a fact starts")
    for deed in problem.deeds.values():
        if any(fact in deed.adds for fact in none) and not stopped(deed, (), table, none):
            raise BadPaper(f"a fact is added: {deed.name}")
        if any(makes(deed, pair) and not stopped(deed, pair, table, none) for pair in table):
            raise BadPaper(f"a pair is made: {deed.name}")
    return len(table)


def makes(deed, pair):
    """Tell whether a deed makes a pair: it adds one of it, and adds the other too or neither drops nor bars it.

    Whether it needs what it adds is not asked: behind it the pair may be there in either case.
    """
    gone = deed.drops + deed.bars
    if any(fact in gone and fact not in deed.adds for fact in pair):
        return False
    return any(fact in deed.adds for fact in pair)


def stopped(deed, pair, table, none):
    """Tell whether a deed's needs, with what it doesn't add of a pair, have a pair of a table or one of none."""
    row = facts(list(deed.needs) + [fact for fact in pair if fact not in deed.adds])
    return any(fact in none for fact in row) or any(is_pair(table, one, other) for one, other in pairs_of(row))


def is_pair(table, one, other):
    """Tell whether two names are a pair of a table, whichever stands first in it."""
    return (one, other) in table or (other, one) in table


def one_of_each(problem):
    """Return lots of facts of which just one holds in each state, as far as pairs show, in order.

    They are greatest lots of facts apart, one of which starts, and which no deed leaves without one.
    """
    table = {pair: True for pair in apart(problem)}
    names = sorted({fact for pair in table for fact in pair})
    lots = [lot for lot in greatest_lots(names, table) if any(fact in problem.start for fact in lot)]
    return tuple(sorted([lot for lot in lots if stays_one(problem, lot)]))


def greatest_lots(names, table):
    """Return all lots of names, any two of which are a pair of a table, that no other name can join."""
    found = []
    grow((), names, names, table, found)
    return found


def grow(lot, left, names, table, found):
    """Put the greatest lots that begin with one, and go on with names that are left, in a row."""
    mine = tuple(lot)
    good = [name for name in left if joins(mine, name, table)]
    others = [name for name in names if name not in mine and name not in good and joins(mine, name, table)]
    # One that is passed over, but joins whatever may come of this lot, leaves none of it a greatest one.
    if any(joins(good, other, table) for other in others):
        return
    if good == []:
        found.append(mine)
    for place, name in enumerate(good):
        grow(mine + (name,), good[place + 1:], names, table, found)


def joins(lot, name, table):
    """Tell whether a name is a pair of a table with each of a lot."""
    return all(is_pair(table, one, name) for one in lot)


def stays_one(problem, lot):
    """Tell whether each deed that drops one of a lot adds one of it, or needs one of it that it doesn't drop."""
    for deed in problem.deeds.values():
        kept = [fact for fact in deed.needs if fact not in deed.drops]
        if any(fact in lot for fact in deed.drops) and not any(fact in lot for fact in list(deed.adds) + kept):
            return False
    return True


def values_of(state, lots):
    """Return, for each lot, its fact that holds in a state, None where none or more do."""
    held = [[fact for fact in lot if fact in state] for lot in lots]
    return tuple([row[0] if len(row) == 1 else None for row in held])
