"""Deeds: what they need, what must not be, what they add and drop, and what they cost."""

from planwright.errors import BadDeed, BadFact

SIGNS = "abcdefghijklmnopqrstuvwxyz0123456789_-,()"


def check_fact(fact):
    """Return a fact: a word of small letters, figures, strokes, commas and brackets; BadFact."""
    if fact == "" or fact.strip(SIGNS) != "":
        raise BadFact(f"not a fact: {fact!r}")
    return fact


def facts(words):
    """Return facts in order, each once; BadFact."""
    return tuple(sorted({check_fact(word) for word in words}))


class Deed:
    """A name, needed and barred facts, added and dropped ones, and a cost; what is both added and dropped is added."""

    def __init__(self, name, needs, bars, adds, drops, cost=1):
        self.name = check_fact(name)
        self.needs = facts(needs)
        self.bars = facts(bars)
        self.adds = facts(adds)
        # Kept among the dropped, an added fact would be taken for gone behind the deed.
        self.drops = tuple([fact for fact in facts(drops) if fact not in self.adds])
        self.cost = cost
        if any(fact in self.bars for fact in self.needs):
            raise BadDeed(f"needs what it bars: {name}")
        if cost < 0:
            raise BadDeed(f"costs less than nought: {name}")

    def fits(self, state):
        """Tell whether a deed can be done in a state."""
        return all(fact in state for fact in self.needs) and not any(fact in state for fact in self.bars)

    def done(self, state):
        """Return the state behind a deed; BadDeed where it can't be done."""
        if not self.fits(state):
            raise BadDeed(f"can't be done: {self.name}")
        return facts([fact for fact in state if fact not in self.drops] + list(self.adds))

    def shown(self):
        """Return (name, needs, bars, adds, drops, cost)."""
        return (self.name, self.needs, self.bars, self.adds, self.drops, self.cost)


def plain(name, needs, adds, drops, cost=1):
    """Return a deed that bars nothing; BadDeed, BadFact."""
    return Deed(name, needs, (), adds, drops, cost)


def is_idle(deed):
    """Tell whether a deed leaves every state in which it can be done as it is."""
    return all(fact in deed.needs for fact in deed.adds) and all(fact in deed.bars for fact in deed.drops)


def in_turn(one, other, name):
    """Return the deed that is one, then another; BadDeed where the other can never follow."""
    if any(fact in one.drops or (fact in one.bars and fact not in one.adds) for fact in other.needs):
        raise BadDeed(f"can't follow, what it needs is gone: {other.name}")
    if any(fact in one.adds or (fact in one.needs and fact not in one.drops) for fact in other.bars):
        raise BadDeed(f"can't follow, what it bars is there: {other.name}")
    needs = list(one.needs) + [fact for fact in other.needs if fact not in one.adds]
    bars = list(one.bars) + [fact for fact in other.bars if fact not in one.drops]
    adds = [fact for fact in one.adds if fact not in other.drops] + list(other.adds)
    drops = list(one.drops) + list(other.drops)
    return Deed(name, needs, bars, adds, drops, one.cost + other.cost)


def hurts(one, other):
    """Tell whether a deed takes away what another needs, or adds what it bars."""
    return any(fact in one.drops for fact in other.needs) or any(fact in one.adds for fact in other.bars)


def clash(one, other):
    """Tell whether one of two deeds adds what the other drops."""
    return any(fact in other.drops for fact in one.adds) or any(fact in one.drops for fact in other.adds)


def helps(one, other):
    """Tell whether a deed gives what another needs, or takes away what it bars."""
    return any(fact in one.adds for fact in other.needs) or any(fact in one.drops for fact in other.bars)


def may_swap(one, other):
    """Tell whether two deeds are free and neither helps the other: in turn, they may be done in either order."""
    return are_free(one, other) and not helps(one, other) and not helps(other, one)


def are_free(one, other):
    """Tell whether two deeds that both can be done may be done in either order, the same behind both."""
    return not hurts(one, other) and not hurts(other, one) and not clash(one, other)


def back_from(goal, bars, deed):
    """Return the (needed, barred) facts ahead of a deed, by those behind it.

    None where it doesn't help or lead there; BadFact.
    """
    wanted = facts(goal)
    barred = facts(bars)
    gives = any(fact in deed.adds for fact in wanted) or any(fact in deed.drops for fact in barred)
    spoils = any(fact in deed.drops for fact in wanted) or any(fact in deed.adds for fact in barred)
    if spoils or not gives:
        return None
    needs_ahead = facts(list(deed.needs) + [fact for fact in wanted if fact not in deed.adds])
    bars_ahead = facts(list(deed.bars) + [fact for fact in barred if fact not in deed.drops])
    # A fact that the deed leaves as it is can't be needed on one side and barred on the other.
    if any(fact in bars_ahead for fact in needs_ahead):
        return None
    return (needs_ahead, bars_ahead)
