"""Clauses: plans of so many steps told as rows of marked letters, of which in each one must be right, and searched."""

from planwright.errors import BadPaper, BadSize, NoPlan


def clauses_of(problem, count):
    """Return clauses, rows of (letter, mark), that are right for just the plans of so many deeds, one at a time.

    Letters are ("fact", fact, time) and ("deed", name, time); BadSize below nought or past eight.
    """
    if not 0 <= count < 9:
        raise BadSize(f"not from nought to eight: {count}")
    told = problem.all_facts()
    found = [((("fact", fact, 0), fact in problem.start),) for fact in told]
    for time in range(count):
        found.extend(step_clauses(problem, told, time))
    found.extend([((("fact", fact, count), True),) for fact in problem.goal])
    found.extend([((("fact", fact, count), False),) for fact in problem.bars])
    return tuple(found)


def step_clauses(problem, told, time):
    """Return the clauses of one time: one deed, what it needs, bars, adds and drops, and what stays as it is."""
    names = list(problem.deeds)
    found = [tuple([(("deed", name, time), True) for name in names])]
    found.extend(one_at_most(names, time))
    for deed in problem.deeds.values():
        found.extend(deed_clauses(deed, time))
    for fact in told:
        found.append(stay(problem, fact, time, True))
        found.append(stay(problem, fact, time, False))
    return found


def one_at_most(names, time):
    """Return clauses that no two names are done at a time."""
    letters = [("deed", name, time) for name in names]
    return [((one, False), (other, False)) for place, one in enumerate(letters) for other in letters[place + 1:]]


def deed_clauses(deed, time):
    """Return clauses that at a deed's time its needs are there and its barred facts not, and then what it makes."""
    marks = [(("fact", fact, time), True) for fact in deed.needs]
    marks.extend([(("fact", fact, time), False) for fact in deed.bars])
    marks.extend([(("fact", fact, time + 1), True) for fact in deed.adds])
    marks.extend([(("fact", fact, time + 1), False) for fact in deed.drops])
    return [((("deed", deed.name, time), False), mark) for mark in marks]


def stay(problem, fact, time, mark):
    """Return the clause that a fact's mark at the next time comes of a deed or of the same mark ahead.

    The next time's letter comes first, then the one ahead, then the deeds as told.
    """
    makers = [deed.name for deed in problem.deeds.values() if fact in (deed.adds if mark else deed.drops)]
    rows = [(("fact", fact, time + 1), not mark), (("fact", fact, time), mark)]
    return tuple(rows + [(("deed", name, time), True) for name in makers])


def marks_of(problem, plan):
    """Return the table of letters to marks of a plan; BadDeed, NoSuch."""
    found = {}
    told = problem.all_facts()
    for time, state in enumerate(problem.states_of(plan)):
        for fact in told:
            found[("fact", fact, time)] = fact in state
    for time, done in enumerate(plan):
        for name in problem.deeds:
            found[("deed", name, time)] = name == done
    return found


def plan_of(marks, count):
    """Return the plan of so many deeds that marks tell; BadPaper unless there is just one deed at each time."""
    names = []
    for time in range(count):
        mine = [letter[1] for letter, mark in marks.items() if mark and letter[0] == "deed" and letter[2] == time]
        if len(mine) != 1:
            raise BadPaper(f"not one deed at {time}")
        names.append(mine[0])
    return tuple(names)


def rows_of(clauses):
    """Return clauses as rows of which each letter can be looked up in a table of marks."""
    return [[(as_letter(letter), mark) for letter, mark in clause] for clause in clauses]


def as_letter(letter):
    """Return a letter, as a tuple where it was handed in as a list."""
    return tuple(letter) if isinstance(letter, list) else letter


def is_met(clause, marks):
    """Tell whether a clause has a letter with its mark."""
    return any(letter in marks and marks[letter] == mark for letter, mark in clause)


def is_right(clauses, marks):
    """Tell whether each clause has a letter with its mark."""
    return all(is_met(clause, marks) for clause in rows_of(clauses))


def marked(clauses):
    """Return a table of marks by which all clauses are right, None for none.

    Lone letters come first, then the first open letter, as it stands, then turned.
    """
    return search(clauses, {})


def search(clauses, marks):
    """Return a table of marks with which all clauses are right, None for none."""
    return search_rows(rows_of(clauses), marks)


def search_rows(rows, marks):
    """Return a table of marks, those told among them, with which all rows are right, None for none."""
    found = {letter: marks[letter] for letter in marks}
    left = open_rows(rows, found)
    while [] not in left and any(len(row) == 1 for row in left):
        for letter, mark in [row[0] for row in left if len(row) == 1]:
            # Where two lone rows are at odds, the second one shows it when it is asked again.
            found.setdefault(letter, mark)
        left = open_rows(left, found)
    if [] in left:
        return None
    if left == []:
        return found
    letter, mark = left[0][0]
    for value in (mark, not mark):
        answer = search_rows(left, {**found, letter: value})
        if answer is not None:
            return answer
    return None


def open_rows(rows, marks):
    """Return, of each row that isn't right yet, what isn't marked yet."""
    return [[(letter, mark) for letter, mark in row if letter not in marks] for row in rows if not is_met(row, marks)]


def plan_by_clauses(problem, most=6):
    """Return a plan of the fewest deeds by clauses of nought, one and more steps; NoPlan past a count, BadSize."""
    if not 0 <= most < 9:
        raise BadSize(f"not from nought to eight: {most}")
    for count in range(most + 1):
        marks = marked(clauses_of(problem, count))
        if marks is not None:
            return plan_of(marks, count)
    raise NoPlan("no plan of so few deeds comes to the goal")


def letters_of(clauses):
    """Return the letters of clauses, each once, as they come."""
    return tuple({letter: True for clause in rows_of(clauses) for letter, _ in clause})


def check_split(clauses, paper):
    """Return how many ends a paper has that no marks are right; BadPaper.

    An end is ("no", clause's place) where all its letters are marked wrong; other papers are (letter, paper if it is
    marked, paper if not).
    """
    return ends_of(clauses, paper, {})


def ends_of(clauses, paper, marks):
    """Return how many ends a paper has with some marks; BadPaper."""
    if paper[0] == "no":
        if not 0 <= paper[1] < len(clauses):
            raise BadPaper(f"no clause: {paper[1]}")
        if any(marks.get(as_letter(letter)) != (not mark) for letter, mark in clauses[paper[1]]):
            raise BadPaper(f"not wrong: {paper[1]}")
        return 1
    letter = as_letter(paper[0])
    if letter in marks:
        raise BadPaper("a letter is marked twice")
    marked_so = ends_of(clauses, paper[1], {**marks, letter: True})
    return marked_so + ends_of(clauses, paper[2], {**marks, letter: False})


def split_paper(clauses, marks=None):
    """Return a paper that no marks are right, None where some are.

    It goes by the first letter of the first shortest open clause.
    """
    return split_rows(list(enumerate(rows_of(clauses))), {} if marks is None else marks)


def split_rows(rows, marks):
    """Return a paper that no more marks make all (place, clause) rows right, None where some do."""
    left = [(place, open_rows([clause], marks)[0]) for place, clause in rows if not is_met(clause, marks)]
    if left == []:
        return None
    place, clause = min(left, key=lambda row: len(row[1]))
    if clause == []:
        return ("no", place)
    letter = clause[0][0]
    yes = split_rows(left, {**marks, letter: True})
    no = None if yes is None else split_rows(left, {**marks, letter: False})
    return None if no is None else (letter, yes, no)
