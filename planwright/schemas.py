"""Schemas: deeds told once for things of kinds, and all deeds that things make of them."""

from planwright.deeds import Deed, check_fact, facts
from planwright.errors import BadDeed, BadFact, BadPlan, BadText
from planwright.problems import Problem

LETTERS = "abcdefghijklmnopqrstuvwxyz0123456789_-"
MARKS = (("needs",), ("bars",), ("adds",), ("drops",))


class Schema:
    """A name, (letter, kind) rows, and needed, barred, added and dropped rows of words, a cost.

    Letters stand for things.
    """

    def __init__(self, name, letters, needs, bars, adds, drops, cost=1):
        self.name = check_word(name)
        self.letters = tuple([(check_word(letter), check_word(kind)) for letter, kind in letters])
        self.rows = tuple([tuple([check_row(row) for row in part]) for part in (needs, bars, adds, drops)])
        self.cost = cost
        if len(dict(self.letters)) != len(self.letters):
            raise BadDeed(f"two letters alike: {name}")
        if not 0 <= cost < 10000:
            raise BadDeed(f"not a cost from nought to 9999: {cost}")
        # In a schema's text such a fact would be taken for the mark.
        if any(row in MARKS for part in self.rows for row in part):
            raise BadDeed(f"a mark's word for a fact: {name}")

    def made(self, things):
        """Return the deed of things in the letters' places; BadDeed for needs that are barred, BadFact."""
        table = {letter: thing for (letter, _), thing in zip(self.letters, things)}
        name = told_fact((self.name,) + tuple(things), {})
        needs, bars, adds, drops = [[told_fact(row, table) for row in part] for part in self.rows]
        return Deed(name, needs, bars, adds, drops, self.cost)

    def shown(self):
        """Return (name, letters, rows, cost)."""
        return (self.name, self.letters, self.rows, self.cost)


def check_word(word):
    """Return a word of small letters, figures and strokes; BadFact."""
    if word == "" or word.strip(LETTERS) != "":
        raise BadFact(f"not a word: {word!r}")
    return word


def check_row(row):
    """Return a row of words, one or more; BadFact."""
    if len(row) == 0:
        raise BadFact("a row of no words")
    return tuple([check_word(word) for word in row])


def told_fact(row, table):
    """Return the fact of a row of words, those of a table but the first exchanged; BadFact.

    The first word stands alone, or the others in brackets behind it.
    """
    words = [table.get(word, word) for word in row[1:]]
    brackets = "(" + ",".join(words) + ")" if words != [] else ""
    return check_fact("".join(row[:1]) + brackets)


def parted(fact):
    """Return the row of a fact's words; BadFact."""
    head, bracket, rest = check_fact(fact).partition("(")
    if bracket == "":
        return check_row([head])
    if rest[-1:] != ")":
        raise BadFact(f"no bracket at the end: {fact}")
    return check_row([head] + rest[:-1].split(","))


def all_of(schema, things):
    """Return all deeds of a schema, things in order, letter by letter; things are a table of names to kinds.

    What would be needed and barred is left out.
    """
    rows = [()]
    for _, kind in schema.letters:
        names = sorted([name for name, mine in things.items() if mine == kind])
        rows = [row + (name,) for row in rows for name in names]
    deeds = [made_or_none(schema, row) for row in rows]
    return [deed for deed in deeds if deed is not None]


def made_or_none(schema, things):
    """Return the deed of things in the letters' places, None where its needs are barred."""
    try:
        return schema.made(things)
    except BadDeed:
        return None


def grounded(schemas, things, start, goal, bars=()):
    """Return the problem of all schemas' deeds; rows of words for facts; BadFact, BadDeed, BadPlan."""
    deeds = []
    for schema in schemas:
        deeds.extend(all_of(schema, things))
    return Problem(told_facts(start), deeds, told_facts(goal), told_facts(bars))


def told_facts(rows):
    """Return the facts of rows of words; BadFact."""
    return [told_fact(check_row(row), {}) for row in rows]


def still(schemas):
    """Return the first words of rows that no schema adds or drops but some need or bar, in order."""
    asked, moved = {}, {}
    for schema in schemas:
        needs, bars, adds, drops = schema.rows
        for row in needs + bars:
            asked[row[0]] = True
        for row in adds + drops:
            moved[row[0]] = True
    return tuple(sorted([word for word in asked if word not in moved]))


def lessened(problem, words):
    """Return the problem without facts of some first words; BadPlan for a goal that asks them otherwise, BadFact.

    Deeds that ask them otherwise than the start has them are left out.
    """
    if not all(fact in problem.start for fact in problem.goal if parted(fact)[0] in words):
        raise BadPlan("the goal asks what isn't at the start")
    if any(fact in problem.start for fact in problem.bars if parted(fact)[0] in words):
        raise BadPlan("the goal bars what is at the start")
    deeds = [lessened_deed(deed, words) for deed in problem.deeds.values() if asks_so(deed, words, problem.start)]
    return Problem(others(problem.start, words), deeds, others(problem.goal, words), others(problem.bars, words))


def others(row, words):
    """Return a row's facts without those of some first words; BadFact."""
    return [fact for fact in row if parted(fact)[0] not in words]


def asks_so(deed, words, start):
    """Tell whether a deed asks the facts of some first words as the start has them; BadFact."""
    needed = [fact in start for fact in deed.needs if parted(fact)[0] in words]
    barred = [fact in start for fact in deed.bars if parted(fact)[0] in words]
    return all(needed) and not any(barred)


def lessened_deed(deed, words):
    """Return a deed without facts of some first words; BadFact."""
    needs, bars, adds, drops = [others(row, words) for row in (deed.needs, deed.bars, deed.adds, deed.drops)]
    return Deed(deed.name, needs, bars, adds, drops, deed.cost)


def read_schema(text):
    """Return a text's schema; BadText, BadFact, BadDeed.

    Its words are "deed", a name, letters with kinds, then marks and facts with letters, cost last.
    """
    words = text.split(" ")
    if len(words) < 2 or words[0] != "deed" or "" in words:
        raise BadText("not a deed's text")
    name, bracket, rest = words[1].partition("(")
    if bracket != "" and rest[-1:] != ")":
        raise BadText(f"no bracket at the end: {words[1]}")
    letters = [pair.split(":") for pair in rest[:-1].split(",")] if bracket != "" else []
    if any(len(pair) != 2 for pair in letters):
        raise BadText(f"not letters with kinds: {words[1]}")
    parts, cost = by_marks(words[2:])
    needs, bars, adds, drops = [[parted(fact) for fact in part] for part in parts]
    return Schema(name, letters, needs, bars, adds, drops, cost)


def by_marks(words):
    """Return (the words behind each mark, cost) of words, the cost last or one; BadText."""
    left = list(words)
    cost = 1
    if left != [] and left[-1].startswith("cost="):
        cost = number(left.pop().removeprefix("cost="))
    parts = {row[0]: [] for row in MARKS}
    mark = None
    for word in left:
        if word in parts:
            mark = word
        elif mark is None:
            raise BadText(f"no mark ahead: {word}")
        else:
            parts[mark].append(word)
    return (list(parts.values()), cost)


def number(word):
    """Return the number of one to four figures; BadText."""
    if not 0 < len(word) < 5 or word.strip("0123456789") != "":
        raise BadText(f"not a number of one to four figures: {word!r}")
    return int(word)


def told_schema(schema):
    """Return a schema's text."""
    letters = ",".join([letter + ":" + kind for letter, kind in schema.letters])
    words = ["deed", schema.name + ("(" + letters + ")" if letters != "" else "")]
    for mark, part in zip(MARKS, schema.rows):
        if part != ():
            words.extend(list(mark) + [told_fact(row, {}) for row in part])
    if schema.cost != 1:
        words.append("cost=" + str(schema.cost))
    return " ".join(words)


def kinds_of(things):
    """Return a table of kinds, in order, to their things, in order; BadFact."""
    return {
        kind: facts([name for name, mine in things.items() if mine == kind]) for kind in facts(list(things.values()))
    }
