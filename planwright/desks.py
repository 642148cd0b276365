"""Desks: lines said to a problem, answered, written down and done again."""

from planwright.deeds import Deed
from planwright.errors import (
    BadDeed, BadFact, BadPaper, BadPlan, BadSize, BadStore, BadText, NoPlan, NoSuch, PlanFault,
)
from planwright.marks import fact_marks, height_by_cuts
from planwright.pairs import apart, height_by_pairs
from planwright.problems import Problem, from_state, reached, with_goal
from planwright.relaxed import height_by_most, height_by_sum
from planwright.schemas import by_marks
from planwright.searches import cheapest

BASE = 9973
WIDE = 2000003
PARTS = ("needs", "bars", "adds", "drops")


def figure_of(text):
    """Return a text's figure: its signs' numbers added up, then weighed by their places from one on."""
    plain = sum([ord(sign) for sign in text])
    weighed = sum([ord(sign) * place for place, sign in enumerate(text, 1)])
    return plain % WIDE * BASE + weighed % BASE


class Desk:
    """A problem, the state that is, and the text of what was done."""

    def __init__(self):
        self.problem = Problem((), (), ())
        self.state = self.problem.start
        self.text = ""
        self.many = 0

    def say(self, line):
        """Do or answer a line; return the answer, "error: ..." for what is refused."""
        try:
            return self.do(line)
        except BadText:
            return "error: text"
        except BadFact:
            return "error: fact"
        except BadDeed:
            return "error: deed"
        except BadPlan:
            return "error: plan"
        except BadPaper:
            return "error: paper"
        except BadSize:
            return "error: size"
        except NoPlan:
            return "error: no plan"
        except NoSuch:
            return "error: no such"

    def do(self, line):
        """Do or answer a line by its first word; what changes something is written down; BadText and what it asks."""
        words = line.split()
        if words == [] or "\n" in line:
            raise BadText("not a line")
        first, rest = words[0], words[1:]
        if first == "deed":
            deeds = list(self.problem.deeds.values()) + [read_deed(rest)]
            return self.let(Problem(self.problem.start, deeds, self.problem.goal, self.problem.bars), words)
        if first == "start":
            return self.let(from_state(self.problem, rest), words)
        if first == "goal":
            goal = [word for word in rest if not word.startswith("!")]
            bars = [word.removeprefix("!") for word in rest if word.startswith("!")]
            return self.let(with_goal(self.problem, goal, bars), words)
        if first == "do" and len(rest) == 1:
            return self.let(from_state(self.problem, self.problem.deed(rest[0]).done(self.state)), words)
        if first == "check":
            return str(self.problem.check(rest))
        return self.answer(words)

    def let(self, problem, words):
        """Let a problem be, its start the state, and write the line down; return the state."""
        body = str(self.many) + " " + " ".join(words)
        self.problem = problem
        self.state = problem.start
        self.text = self.text + body + " " + str(figure_of(body)) + "\n"
        self.many += 1
        return " ".join(self.state)

    def answer(self, words):
        """Return deeds that can be done, a cheapest plan, heights, marks, pairs apart or how many states.

        BadText for another line, NoPlan, BadSize.
        """
        line = " ".join(words)
        if line == "can":
            return " ".join([deed.name for deed in self.problem.choices(self.state)])
        if line == "plan":
            cost, plan = cheapest(self.problem)
            return " ".join([str(cost)] + list(plan))
        if line == "heights":
            return told_heights(self.problem, self.state)
        if line == "marks":
            marks = fact_marks(self.problem, self.state)
            return "none" if marks is None else " ".join(marks)
        if line == "apart":
            return " ".join([one + "/" + other for one, other in apart(self.problem)])
        if line == "states":
            return str(len(reached(self.problem)))
        raise BadText(f"not a line: {line}")


def told_heights(problem, state):
    """Return a state's heights by most, by sum, by pairs and by cuts as one text, "none" for None."""
    heights = [
        height_by_most(problem, state), height_by_sum(problem, state), height_by_pairs(problem, state),
        height_by_cuts(problem, state),
    ]
    return " ".join(["none" if height is None else str(height) for height in heights])


def read_deed(words):
    """Return the deed of a name, then marks with facts behind them, and a cost last; BadText, BadFact, BadDeed."""
    if len(words) == 0:
        raise BadText("no name of a deed")
    parts, cost = by_marks(words[1:])
    needs, bars, adds, drops = parts
    return Deed(words[0], needs, bars, adds, drops, cost)


def told_deed(deed):
    """Return a deed's words as one text, blanks between, bare parts left out."""
    words = [deed.name]
    for part, row in zip(PARTS, (deed.needs, deed.bars, deed.adds, deed.drops)):
        if row != ():
            words.extend([part] + list(row))
    words.append("cost=" + str(deed.cost))
    return " ".join(words)


def lines_of(text):
    """Return the lines of a written text, a row without an end left out; BadStore."""
    found = []
    for place, row in enumerate(text.split("\n")[:-1]):
        body, _, figure = row.rpartition(" ")
        head, _, line = body.partition(" ")
        if head != str(place) or figure != str(figure_of(body)):
            raise BadStore(f"not whole: {row}")
        found.append(line)
    return tuple(found)


def done_again(text):
    """Return the desk that a text's lines make from nothing; BadStore for what can't be."""
    desk = Desk()
    for line in lines_of(text):
        try:
            desk.do(line)
        except PlanFault:
            raise BadStore(f"can't be: {line}")
    # A line that nothing is written of can't have been written either.
    if not text.startswith(desk.text) or "\n" in text[len(desk.text):]:
        raise BadStore("not as it is written")
    return desk
