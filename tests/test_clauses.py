"""Clauses: which marks are right for which plans, the search for marks, split papers, and what is refused."""

import random
import unittest
from itertools import product

from planwright.clauses import (
    check_split, clauses_of, ends_of, is_right, letters_of, marked, marks_of, one_at_most, plan_by_clauses, plan_of,
    search, split_paper, stay,
)
from planwright.deeds import Deed, plain
from planwright.errors import BadDeed, BadPaper, BadSize, NoPlan, NoSuch
from planwright.problems import Problem, comes
from samples import chain, kinds, lamp, least_steps, rand_problem, walk


def tiny():
    """Return a problem of two facts and two deeds."""
    return Problem(["a"], [Deed("go", ["a"], ["b"], ["b"], ["a"]), Deed("back", ["b"], [], ["a"], [])], ["b"], [])


def all_marks(letters):
    """Return all tables of marks of letters."""
    return [dict(zip(letters, row)) for row in product((False, True), repeat=len(letters))]


def some_clauses(seed):
    """Return clauses of a few letters, the same for the same seed."""
    rand = random.Random(seed)
    letters = "pqrst"[:rand.randint(1, 5)]
    return [
        [(rand.choice(letters), rand.random() < 0.5) for _ in range(rand.choice([1, 2, 2, 3, 3]))]
        for _ in range(rand.randint(0, 9))
    ]


def met(clauses, marks):
    """Tell whether each clause has a letter with its mark."""
    return all(any(marks[letter] == mark for letter, mark in clause) for clause in clauses)


class ClausesTest(unittest.TestCase):
    def test_the_clauses_of_one_step(self):
        go, back = ("deed", "go", 0), ("deed", "back", 0)
        a, b, a1, b1 = ("fact", "a", 0), ("fact", "b", 0), ("fact", "a", 1), ("fact", "b", 1)
        found = clauses_of(tiny(), 1)
        self.assertEqual(found, (
            ((a, True),), ((b, False),),
            ((go, True), (back, True)), ((go, False), (back, False)),
            ((go, False), (a, True)), ((go, False), (b, False)), ((go, False), (b1, True)), ((go, False), (a1, False)),
            ((back, False), (b, True)), ((back, False), (a1, True)),
            ((a1, False), (a, True), (back, True)), ((a1, True), (a, False), (go, True)),
            ((b1, False), (b, True), (go, True)), ((b1, True), (b, False)),
            ((b1, True),),
        ))
        self.assertEqual(kinds(found), (tuple, [kinds(clause) for clause in found]))
        self.assertEqual(kinds(found[0]), (tuple, [(tuple, [(tuple, [str, str, int]), bool])]))

    def test_no_step(self):
        self.assertEqual(clauses_of(Problem(["a"], [], ["a", "c"], ["b"]), 0), (
            ((("fact", "a", 0), True),), ((("fact", "b", 0), False),), ((("fact", "c", 0), False),),
            ((("fact", "a", 0), True),), ((("fact", "c", 0), True),), ((("fact", "b", 0), False),),
        ))
        self.assertEqual(clauses_of(Problem([], [], []), 0), ())

    def test_no_deeds(self):
        self.assertIn((), clauses_of(Problem(["a"], [], ["a"]), 1))
        self.assertIsNone(marked(clauses_of(Problem(["a"], [], ["a"]), 1)))

    def test_a_barred_fact_of_the_goal(self):
        problem = Problem(["a"], [plain("out", ["a"], [], ["a"])], [], ["a"])
        self.assertEqual(clauses_of(problem, 1)[-1], ((("fact", "a", 1), False),))

    def test_counts(self):
        for count in (0, 8):
            clauses_of(tiny(), count)
        for count in (-1, 9, 20):
            with self.assertRaises(BadSize):
                clauses_of(tiny(), count)

    def test_right_for_just_the_plans(self):
        for problem in (tiny(), Problem(["a"], list(tiny().deeds.values()), ["a"], ["b"])):
            for count in range(3):
                clauses = clauses_of(problem, count)
                plans = [plan for plan in product(problem.deeds, repeat=count) if comes(problem, plan)]
                right = [marks for marks in all_marks(letters_of(clauses)) if is_right(clauses, marks)]
                self.assertEqual(len(right), len(plans), count)
                for plan in plans:
                    self.assertIn(marks_of(problem, plan), right)

    def test_right_for_the_plans_of_many_problems(self):
        for seed in range(25):
            problem = rand_problem(seed, 4, 4)
            for count in range(4):
                clauses = clauses_of(problem, count)
                for plan in product(problem.deeds, repeat=count):
                    try:
                        marks = marks_of(problem, plan)
                    except BadDeed:
                        continue
                    self.assertEqual(set(letters_of(clauses)), set(marks))
                    self.assertIs(is_right(clauses, marks), comes(problem, plan), (seed, plan))
                    for letter in marks:
                        self.assertFalse(is_right(clauses, {**marks, letter: not marks[letter]}), (seed, plan, letter))

    def test_one_at_most(self):
        found = one_at_most(["a", "c", "b"], 3)
        self.assertEqual(found, [
            ((("deed", "a", 3), False), (("deed", "c", 3), False)), ((("deed", "a", 3), False), (("deed", "b", 3), False)),
            ((("deed", "c", 3), False), (("deed", "b", 3), False)),
        ])
        self.assertEqual([type(found), type(found[0])], [list, tuple])
        self.assertEqual(one_at_most(("a",), 0), [])
        self.assertEqual(one_at_most([], 0), [])

    def test_stay(self):
        deeds = [plain("z", [], ["a"], []), plain("y", [], [], ["a"]), plain("x", [], ["a"], []), plain("w", ["a"], [], [])]
        problem = Problem([], deeds, [])
        self.assertEqual(stay(problem, "a", 2, True), (
            (("fact", "a", 3), False), (("fact", "a", 2), True), (("deed", "z", 2), True), (("deed", "x", 2), True),
        ))
        self.assertEqual(stay(problem, "a", 0, False), (
            (("fact", "a", 1), True), (("fact", "a", 0), False), (("deed", "y", 0), True),
        ))
        self.assertEqual(stay(problem, "b", 0, True), ((("fact", "b", 1), False), (("fact", "b", 0), True)))
        self.assertIs(type(stay(problem, "b", 0, False)), tuple)


class MarksTest(unittest.TestCase):
    def test_marks_of(self):
        found = marks_of(tiny(), ["go", "back"])
        self.assertEqual(found, {
            ("fact", "a", 0): True, ("fact", "b", 0): False, ("fact", "a", 1): False, ("fact", "b", 1): True,
            ("fact", "a", 2): True, ("fact", "b", 2): True, ("deed", "go", 0): True, ("deed", "back", 0): False,
            ("deed", "go", 1): False, ("deed", "back", 1): True,
        })
        self.assertIs(type(found), dict)
        self.assertEqual({type(mark) for mark in found.values()}, {bool})
        self.assertEqual(marks_of(tiny(), ()), {("fact", "a", 0): True, ("fact", "b", 0): False})
        self.assertEqual(marks_of(Problem([], [], []), ()), {})

    def test_plans_that_are_refused(self):
        for plan, error in ((("back",), BadDeed), (("go", "go"), BadDeed), (("no",), NoSuch)):
            with self.assertRaises(error):
                marks_of(tiny(), plan)

    def test_plan_of(self):
        for plan in ((), ("go",), ("go", "back"), ("go", "back", "back")):
            self.assertEqual(plan_of(marks_of(tiny(), plan), len(plan)), plan)
        self.assertEqual(plan_of(marks_of(tiny(), ("go", "back")), 1), ("go",))
        self.assertEqual(plan_of({}, 0), ())
        self.assertEqual(plan_of({("deed", "x", 0): True, ("fact", "y", 0): True, ("deed", "z", 1): True}, 1), ("x",))
        self.assertIs(type(plan_of({}, 0)), tuple)

    def test_not_one_deed(self):
        marks = marks_of(tiny(), ("go", "back"))
        for other, count in (({}, 3), ({("deed", "go", 1): True}, 2), ({("deed", "back", 1): False}, 2), ({("deed", "go", 0): False}, 1)):
            table = {**marks, **other}
            kept = dict(table)
            with self.assertRaises(BadPaper):
                plan_of(table, count)
            self.assertEqual(table, kept)

    def test_is_right(self):
        clauses = [[("p", True), ("q", False)], [("q", True)]]
        for p, q, told in ((True, True, True), (True, False, False), (False, True, False)):
            self.assertIs(is_right(clauses, {"p": p, "q": q}), told)
        self.assertIs(is_right([], {}), True)
        self.assertIs(is_right([()], {}), False)
        self.assertIs(is_right(((("p", False),),), {}), False)
        self.assertIs(is_right(((("p", False), ("q", True)),), {"q": True}), True)
        self.assertIs(is_right([[[["fact", "a", 0], True]]], {("fact", "a", 0): True}), True)

    def test_letters_of(self):
        self.assertEqual(letters_of([[("q", True), ("p", False)], [("r", True), ("q", False)], []]), ("q", "p", "r"))
        self.assertEqual(letters_of([]), ())
        self.assertEqual(letters_of([[[["deed", "a", 0], True]]]), (("deed", "a", 0),))
        self.assertEqual(letters_of(clauses_of(Problem(["a"], [], ["a"]), 0)), (("fact", "a", 0),))
        self.assertIs(type(letters_of([])), tuple)


class SearchTest(unittest.TestCase):
    def test_marked(self):
        self.assertEqual(marked([[("p", True)], [("p", False), ("q", False)]]), {"p": True, "q": False})
        self.assertIsNone(marked([[("p", True)], [("p", False)]]))
        self.assertIs(type(marked([])), dict)

    def test_no_clauses_and_a_clause_of_no_letter(self):
        self.assertEqual(marked([]), {})
        self.assertIsNone(marked([[]]))
        self.assertIsNone(marked(((("p", True),), ())))

    def test_the_first_open_letter_as_it_stands_then_turned(self):
        self.assertEqual(marked([[("p", True), ("q", True)]])["p"], True)
        self.assertEqual(marked([[("p", False), ("q", True)]])["p"], False)
        self.assertEqual(marked([[("q", False), ("p", True)], [("r", True), ("p", True)]]), {"q": False, "r": True})
        self.assertEqual(marked([[("p", True), ("q", True)], [("q", False), ("p", True)]]), {"p": True})
        # As it stands, p leads nowhere.
        found = marked([[("p", True), ("q", True)], [("p", False), ("r", True)], [("p", False), ("r", False)]])
        self.assertEqual((found["p"], found["q"]), (False, True))

    def test_lone_letters_first(self):
        self.assertEqual(marked([[("p", True), ("q", True)], [("p", False)]]), {"p": False, "q": True})
        self.assertEqual(marked([[("p", True), ("q", True)], [("q", True)]]), {"q": True})

    def test_search_with_marks(self):
        clauses = [[("p", True), ("q", True)]]
        marks = {"p": False, "r": True}
        self.assertEqual(search(clauses, marks), {"p": False, "r": True, "q": True})
        self.assertEqual(marks, {"p": False, "r": True})
        self.assertIsNone(search(clauses, {"p": False, "q": False}))
        self.assertEqual(search(clauses, {"q": True}), {"q": True})
        self.assertEqual(search([[[["fact", "a", 0], False]]], {}), {("fact", "a", 0): False})
        self.assertIs(type(search([], {})), dict)

    def test_many_clauses(self):
        both = [0, 0]
        for seed in range(300):
            clauses = some_clauses(seed)
            letters = sorted(letters_of(clauses))
            can = any(met(clauses, marks) for marks in all_marks(letters))
            found = marked(clauses)
            both[can] += 1
            self.assertEqual(found is not None, can, seed)
            if can:
                self.assertTrue(is_right(clauses, found), seed)
                for letter in letters:
                    told = any(marks[letter] and met(clauses, marks) for marks in all_marks(letters))
                    self.assertEqual(search(clauses, {letter: True}) is not None, told, seed)
            else:
                paper = split_paper(clauses)
                self.assertGreater(check_split(clauses, paper), 0, seed)
        self.assertGreater(min(both), 40)


class PlanByClausesTest(unittest.TestCase):
    def test_a_plan_of_the_fewest_deeds(self):
        self.assertEqual(plan_by_clauses(tiny()), ("go",))
        self.assertEqual(plan_by_clauses(lamp()), ("go", "light"))
        self.assertEqual(plan_by_clauses(chain(5)), ("d0", "d1", "d2", "d3"))
        self.assertIs(type(plan_by_clauses(tiny())), tuple)

    def test_the_first_as_told(self):
        for names in (("p", "q"), ("q", "p")):
            self.assertEqual(plan_by_clauses(walk([(name, "a", "b", 1) for name in names], "a", "b")), names[:1])

    def test_a_goal_at_the_start(self):
        self.assertEqual(plan_by_clauses(Problem(["a"], [], ["a"], ["b"])), ())
        self.assertEqual(plan_by_clauses(Problem(["a"], [], ["a"]), 0), ())

    def test_counts(self):
        self.assertEqual(len(plan_by_clauses(chain(9), 8)), 8)
        self.assertEqual(len(plan_by_clauses(chain(7))), 6)
        with self.assertRaises(NoPlan):
            plan_by_clauses(chain(8))
        for problem, most in ((chain(4), 2), (chain(2), 0), (walk([("ab", "a", "b", 1), ("ba", "b", "a", 1)], "a", "c"), 8)):
            with self.assertRaises(NoPlan):
                plan_by_clauses(problem, most)
        for most in (-1, 9, 30):
            with self.assertRaises(BadSize):
                plan_by_clauses(tiny(), most)

    def test_many_problems(self):
        plans = 0
        for seed in range(60):
            problem = rand_problem(seed)
            steps = least_steps(problem)
            if steps is None or steps > 4:
                with self.assertRaises(NoPlan):
                    plan_by_clauses(problem, 4)
            else:
                plan = plan_by_clauses(problem, 4)
                problem.check(plan)
                self.assertEqual(len(plan), steps, seed)
                plans += steps > 0
        self.assertGreater(plans, 15)


class SplitTest(unittest.TestCase):
    CLAUSES = (
        (("p", True), ("q", True)), (("p", True), ("q", False)), (("p", False), ("q", True)), (("p", False), ("q", False)),
    )
    PAPER = ("p", ("q", ("no", 3), ("no", 2)), ("q", ("no", 1), ("no", 0)))

    def test_a_right_paper(self):
        self.assertEqual(check_split(self.CLAUSES, self.PAPER), 4)
        self.assertEqual(check_split([list(clause) for clause in self.CLAUSES], ["p", ["q", ["no", 3], ["no", 2]], self.PAPER[2]]), 4)
        self.assertEqual(check_split([[]], ("no", 0)), 1)
        self.assertEqual(check_split([[[["fact", "a", 0], True]], [[("fact", "a", 0), False]]], (["fact", "a", 0], ("no", 1), ("no", 0))), 2)

    def test_a_clause_that_is_not_there(self):
        for place in (-1, 4, 99):
            with self.assertRaises(BadPaper):
                check_split(self.CLAUSES, ("p", ("q", ("no", place), ("no", 2)), self.PAPER[2]))
        with self.assertRaises(BadPaper):
            check_split([], ("no", 0))

    def test_a_clause_that_is_not_wrong(self):
        for paper in (("no", 0), ("p", ("no", 2), self.PAPER[2]), ("p", self.PAPER[1], ("no", 1)),
                      ("p", ("q", ("no", 2), ("no", 3)), self.PAPER[2]), ("p", self.PAPER[2], self.PAPER[1])):
            with self.assertRaises(BadPaper):
                check_split(self.CLAUSES, paper)

    def test_a_letter_marked_twice(self):
        for paper in (("p", ("p", ("no", 3), ("no", 2)), self.PAPER[2]), ("p", self.PAPER[1], ("q", ("no", 1), ("q", ("no", 0), ("no", 0))))):
            with self.assertRaises(BadPaper):
                check_split(self.CLAUSES, paper)

    def test_ends_of(self):
        marks = {"p": True}
        self.assertEqual(ends_of(self.CLAUSES, self.PAPER[1], marks), 2)
        self.assertEqual(ends_of(self.CLAUSES, ("no", 3), {"p": True, "q": True}), 1)
        self.assertEqual(ends_of(self.CLAUSES, ("q", self.PAPER[1][1], self.PAPER[1][2]), marks), 2)
        for paper in (self.PAPER, ("no", 3), ("no", 4), ("no", -1)):
            with self.assertRaises(BadPaper):
                ends_of(self.CLAUSES, paper, marks)
        self.assertEqual(marks, {"p": True})

    def test_a_letter_that_stands_in_no_clause(self):
        self.assertEqual(check_split(self.CLAUSES, ("z", self.PAPER, self.PAPER)), 8)

    def test_split_paper(self):
        found = split_paper(self.CLAUSES)
        self.assertEqual(found, self.PAPER)
        self.assertEqual(kinds(found), (tuple, [str] + [(tuple, [str] + [(tuple, [str, int])] * 2)] * 2))
        self.assertEqual(split_paper([[("p", True)], []]), ("no", 1))
        self.assertEqual(split_paper([[["p", True]], [["p", False]]]), ("p", ("no", 1), ("no", 0)))

    def test_none_where_some_marks_are_right(self):
        for clauses in ([], self.CLAUSES[:3], [[("p", True), ("p", False)]]):
            self.assertIsNone(split_paper(clauses))

    def test_the_first_letter_of_the_first_shortest_open_clause(self):
        clauses = (
            (("p", True), ("q", True), ("r", True)), (("s", True), ("p", True)), (("q", True), ("p", True)), (("s", False),),
            (("p", False),),
        )
        # s is lone, then the second clause and the fifth have one open letter, p.
        self.assertEqual(split_paper(clauses), ("s", ("no", 3), ("p", ("no", 4), ("no", 1))))
        # A clause that is right is no open one.
        self.assertEqual(split_paper(clauses, {"s": False}), ("p", ("no", 4), ("no", 1)))
        self.assertEqual(split_paper((clauses[0], clauses[2], clauses[4]), {"q": True}), None)

    def test_with_marks(self):
        marks = {"p": True}
        self.assertEqual(split_paper(self.CLAUSES, marks), self.PAPER[1])
        self.assertEqual(split_paper(self.CLAUSES, marks={"p": False, "q": True}), ("no", 1))
        self.assertEqual(marks, {"p": True})
        self.assertIsNone(split_paper([[("p", True), ("q", True)]], {"p": False}))

    def test_papers_that_there_is_no_plan(self):
        for seed in range(25):
            problem = rand_problem(seed, 4, 4)
            steps = least_steps(problem)
            for count in range(3):
                clauses = clauses_of(problem, count)
                if steps is None or steps > count:
                    self.assertGreater(check_split(clauses, split_paper(clauses)), 0, seed)
                elif count == steps:
                    self.assertIsNone(split_paper(clauses), seed)


if __name__ == "__main__":
    unittest.main()
