"""Desks: lines said and answered, what is written down and its figure, desks made again, and what is refused."""

import random
import unittest

from planwright.deeds import Deed, plain
from planwright.desks import BASE, PARTS, WIDE, Desk, done_again, figure_of, lines_of, read_deed, told_deed
from planwright.errors import (
    BadDeed, BadFact, BadPlan, BadSize, BadStore, BadText, NoPlan, NoSuch,
)
from planwright.problems import Problem, from_state
from planwright.searches import cheapest
from samples import behind, kinds, rand_problem, wheels

LINES = (
    "deed go needs home adds shop drops home cost=2", "deed buy needs shop bars shut adds milk", "deed wait cost=0",
    "start home", "goal milk !lost",
)
TEXT = (
    "0 deed go needs home adds shop drops home cost=2 42761864\n"
    "1 deed buy needs shop bars shut adds milk 37190352\n"
    "2 deed wait cost=0 15313587\n"
    "3 start home 10957972\n"
    "4 goal milk !lost 14754196\n"
)
ERRORS = (
    ("", "text"), ("   ", "text"), ("can\n", "text"), ("do go\ndo buy", "text"), ("hello", "text"), ("Do go", "text"),
    ("can go", "text"), ("plan 3", "text"), ("heights x", "text"), ("marks x", "text"), ("apart x", "text"), ("states x", "text"),
    ("do", "text"), ("do go buy", "text"), ("deed", "text"), ("deed x home", "text"), ("deed x cost=10000", "text"),
    ("deed x cost=", "text"), ("deed x cost=-1", "text"), ("deed x needs a cost=1x", "text"), ("deed x cost=2 adds a", "text"),
    ("deed X", "fact"), ("deed x needs A", "fact"), ("deed x adds a!", "fact"), ("deed x adds a cost=2 drops b", "fact"),
    ("start Home", "fact"), ("start home !away", "fact"), ("goal A", "fact"), ("goal !", "fact"), ("goal a !!b", "fact"),
    ("deed go", "deed"), ("deed x needs a bars a", "deed"), ("do buy", "deed"), ("check buy", "deed"), ("check go go", "deed"),
    ("goal a !a", "plan"), ("check", "plan"), ("check go", "plan"), ("check wait", "plan"),
    ("do no", "no such"), ("check no", "no such"), ("check go no", "no such"),
)


def desk():
    """Return a desk of a way to the shop."""
    found = Desk()
    for line in LINES:
        found.say(line)
    return found


def shown(told):
    """Return all that a desk holds."""
    return (told.problem.shown(), told.state, told.text, told.many)


def row_told(place, line):
    """Return a row of a written text."""
    body = "%d %s" % (place, line)
    plain_sum = sum(ord(sign) for sign in body) % 2000003
    weighed = sum(ord(sign) * (at + 1) for at, sign in enumerate(body)) % 9973
    return "%s %d\n" % (body, plain_sum * 9973 + weighed)


class FigureTest(unittest.TestCase):
    def test_constants(self):
        self.assertEqual((BASE, WIDE, PARTS), (9973, 2000003, ("needs", "bars", "adds", "drops")))

    def test_figure_of(self):
        self.assertEqual(figure_of(""), 0)
        self.assertEqual(figure_of("a"), 97 * 9973 + 97)
        self.assertEqual(figure_of("ab"), 195 * 9973 + 97 + 196)
        self.assertEqual(figure_of("ba"), 195 * 9973 + 98 + 194)
        self.assertEqual(figure_of("0 do go"), 537 * 9973 + (48 + 2 * 32 + 3 * 100 + 4 * 111 + 5 * 32 + 6 * 103 + 7 * 111))

    def test_what_is_left(self):
        text = "z" * 20000
        self.assertEqual(figure_of(text), (122 * 20000 - 2000003) * 9973 + 122 * 20000 * 20001 // 2 % 9973)
        self.assertEqual(figure_of("z" * 60), 122 * 60 * 9973 + 122 * 60 * 61 // 2 % 9973)
        self.assertEqual(figure_of("\u20ac"), 8364 * 9973 + 8364)

    def test_signs_in_another_order_have_another_figure(self):
        self.assertEqual(len({figure_of(text) for text in ("abc", "acb", "bac", "bca", "cab", "cba")}), 4)


class DeedTest(unittest.TestCase):
    def test_read_deed(self):
        deed = read_deed(["go", "needs", "b", "a", "bars", "c", "adds", "d", "drops", "a", "cost=7"])
        self.assertIsInstance(deed, Deed)
        self.assertEqual(deed.shown(), ("go", ("a", "b"), ("c",), ("d",), ("a",), 7))
        for words in (("go",), ["go", "cost=1"], ["go", "needs"], ("go", "adds", "needs", "bars", "drops", "cost=1")):
            self.assertEqual(read_deed(words).shown(), ("go", (), (), (), (), 1))
        self.assertEqual(read_deed(["x", "drops", "d", "needs", "n", "drops", "e"]).shown(), ("x", ("n",), (), (), ("d", "e"), 1))

    def test_numbers_of_four_figures_and_of_five(self):
        for word, cost in (("0", 0), ("9999", 9999), ("0010", 10)):
            self.assertEqual(read_deed(["x", "cost=" + word]).cost, cost)
        for word in ("10000", "00000", "", "x", "-1", "1.5", "+1"):
            with self.assertRaises(BadText):
                read_deed(["x", "cost=" + word])

    def test_refused(self):
        for words, error in (
            ([], BadText), (["x", "a"], BadText), (["x", "a", "needs", "b"], BadText), (["x", "cost=2", "needs", "a"], BadText),
            (["X"], BadFact), ([""], BadFact), (["x", "needs", "A"], BadFact), (["x", "needs", "a", "cost=2", "b"], BadFact),
            (["cost=2"], BadFact), (["x", "drops", ""], BadFact), (["x", "needs", "a", "bars", "a"], BadDeed),
        ):
            with self.assertRaises(error, msg=words):
                read_deed(words)

    def test_told_deed(self):
        deed = Deed("go(a)", ["n", "m"], ["b"], ["x"], ["m"], 7)
        self.assertEqual(told_deed(deed), "go(a) needs m n bars b adds x drops m cost=7")
        self.assertEqual(told_deed(Deed("x", [], ["b"], [], [], 0)), "x bars b cost=0")
        self.assertEqual(told_deed(plain("x", [], [], [])), "x cost=1")

    def test_told_and_read_again(self):
        for seed in range(20):
            for deed in rand_problem(seed).deeds.values():
                self.assertEqual(read_deed(told_deed(deed).split(" ")).shown(), deed.shown())
                told = Desk()
                told.do("deed " + told_deed(deed))
                self.assertEqual(told.problem.deeds[deed.name].shown(), deed.shown())


class SayTest(unittest.TestCase):
    def test_an_empty_desk(self):
        told = Desk()
        self.assertEqual(shown(told), (((), (), (), ()), (), "", 0))
        for line, answer in (
            ("can", ""), ("plan", "0"), ("heights", "0 0 0 0"), ("marks", ""), ("apart", ""), ("states", "1"), ("check", "0"),
            ("do go", "error: no such"), ("check go", "error: no such"),
        ):
            self.assertEqual(told.say(line), answer)
        self.assertEqual(shown(told), (((), (), (), ()), (), "", 0))
        self.assertEqual([told.say("start"), told.say("goal")], ["", ""])
        self.assertEqual((told.text, told.many), (row_told(0, "start") + row_told(1, "goal"), 2))

    def test_lines_that_change_something(self):
        told = Desk()
        self.assertEqual([told.say(line) for line in LINES], ["", "", "", "home", "home"])
        self.assertEqual(told.problem.shown(), (
            ("home",), (
                ("go", ("home",), (), ("shop",), ("home",), 2), ("buy", ("shop",), ("shut",), ("milk",), (), 1),
                ("wait", (), (), (), (), 0),
            ), ("milk",), ("lost",),
        ))
        self.assertEqual((told.state, told.many), (("home",), 5))
        self.assertEqual(told.text, "".join(row_told(place, line) for place, line in enumerate(LINES)))
        self.assertEqual(told.text, TEXT)

    def test_states_are_answered(self):
        told = desk()
        self.assertEqual(told.say("start b a b"), "a b")
        self.assertEqual(told.say("deed x adds c"), "a b")
        self.assertEqual(told.say("goal c"), "a b")
        self.assertEqual(told.say("do x"), "a b c")
        self.assertEqual((told.state, told.problem.start), (("a", "b", "c"), ("a", "b", "c")))
        self.assertEqual(type(told.state), tuple)
        self.assertEqual(told.say("start"), "")

    def test_each_line_leaves_the_rest_of_the_problem(self):
        told = desk()
        deeds = told.problem.shown()[1]
        told.say("deed rest bars lost")
        more = deeds + (("rest", (), ("lost",), (), (), 1),)
        self.assertEqual(told.problem.shown(), (("home",), more, ("milk",), ("lost",)))
        told.say("start shop")
        self.assertEqual(told.problem.shown(), (("shop",), more, ("milk",), ("lost",)))
        told.say("goal !shop tea !home")
        self.assertEqual(told.problem.shown(), (("shop",), more, ("tea",), ("home", "shop")))
        told.say("do buy")
        self.assertEqual(told.problem.shown(), (("milk", "shop"), more, ("tea",), ("home", "shop")))

    def test_what_is_done_is_the_start_from_then_on(self):
        told = desk()
        self.assertEqual([told.say("do go"), told.say("can"), told.say("plan")], ["shop", "buy wait", "1 buy"])
        self.assertEqual((told.problem.start, told.problem.goal, told.problem.bars), (("shop",), ("milk",), ("lost",)))
        self.assertEqual([told.say("do buy"), told.say("plan"), told.say("check")], ["milk shop", "0", "0"])
        self.assertEqual(told.many, 7)

    def test_answers(self):
        told = desk()
        for line, answer in (
            ("can", "go wait"), ("plan", "3 go buy"), ("heights", "3 3 3 3"), ("marks", "home milk shop"), ("apart", "home/milk home/shop"),
            ("states", "3"), ("check go buy", "3"), ("check go wait buy wait", "3"),
        ):
            self.assertEqual(told.say(line), answer)
            self.assertEqual(told.do(line), answer)
            if not line.startswith("check"):
                self.assertEqual(told.answer(line.split()), answer)
        self.assertEqual(told.text, TEXT)

    def test_heights_and_marks_of_none(self):
        told = desk()
        told.say("goal gold")
        self.assertEqual([told.say("heights"), told.say("marks")], ["none none none none", "none"])
        self.assertEqual(told.say("plan"), "error: no plan")
        told.say("goal home milk")
        # Relaxed, home stays there; told by pairs, it goes.
        self.assertEqual([told.say("heights"), told.say("plan")], ["3 3 none 3", "error: no plan"])

    def test_heights_in_their_order(self):
        told = Desk()
        for line in (
            "deed a adds a cost=4", "deed b adds b cost=5", "deed c needs a b adds c drops a cost=1", "deed d needs a adds e cost=2",
            "goal a c e",
        ):
            told.say(line)
        heights = told.say("heights").split()
        self.assertEqual(heights[:2], ["6", "20"])
        self.assertEqual(told.say("plan").split()[0], "16")
        self.assertEqual(heights, ["6", "20", "14", "12"])

    def test_blanks(self):
        told = Desk()
        self.assertEqual(told.say("  start   b  a "), "a b")
        self.assertEqual(told.text, row_told(0, "start b a"))
        self.assertEqual(told.say(" states  "), "1")

    def test_errors(self):
        for line, word in ERRORS:
            told = desk()
            self.assertEqual(told.say(line), "error: " + word, line)
            self.assertEqual(shown(told), shown(desk()), line)

    def test_one_error_behind_another_in_any_order(self):
        told = desk()
        rows = list(ERRORS) * 2
        random.Random(1).shuffle(rows)
        for line, word in rows:
            self.assertEqual(told.say(line), "error: " + word, line)
        self.assertEqual(shown(told), shown(desk()))
        self.assertEqual([told.say("do go"), told.say("do buy")], ["shop", "milk shop"])

    def test_errors_of_do(self):
        kinds_told = {"text": BadText, "fact": BadFact, "deed": BadDeed, "plan": BadPlan, "no such": NoSuch}
        told = desk()
        for line, word in ERRORS:
            with self.assertRaises(kinds_told[word], msg=line):
                told.do(line)
            self.assertEqual(shown(told), shown(desk()))
        told.say("goal gold")
        with self.assertRaises(NoPlan):
            told.do("plan")
        self.assertEqual(told.say("plan"), "error: no plan")

    def test_answers_to_other_words_refused(self):
        told = desk()
        for words in ([], ["no"], ["can", "go"], ["check"], ["check", "go", "buy"], ["deed", "x"], ["start"], ["goal"], ["do", "go"], ["", "can"]):
            with self.assertRaises(BadText, msg=words):
                told.answer(words)
        self.assertEqual(told.answer(("states",)), "3")
        self.assertEqual(shown(told), shown(desk()))

    def test_too_many_states(self):
        told = Desk()
        for deed in wheels((7, 7, 7, 6)).deeds.values():
            told.say("deed " + told_deed(deed))
        told.say("start w0-0 w1-0 w2-0 w3-0")
        told.say("goal never")
        for line in ("states", "plan"):
            self.assertEqual(told.say(line), "error: size")
            with self.assertRaises(BadSize):
                told.do(line)
        told.say("start w0-0 w1-0 w2-0")
        self.assertEqual(told.say("states"), "343")

    def test_let(self):
        told = desk()
        problem = Problem(["b", "a"], [], ["c"])
        self.assertEqual(told.let(problem, ["start", "a", "b"]), "a b")
        self.assertIs(told.problem, problem)
        self.assertEqual((told.state, told.many, told.text), (("a", "b"), 6, TEXT + row_told(5, "start a b")))

    def test_two_desks_are_apart(self):
        one, other = desk(), Desk()
        self.assertEqual(shown(other), shown(Desk()))
        other.say("start x")
        self.assertEqual(shown(one), shown(desk()))


class WrittenTest(unittest.TestCase):
    def test_lines_of(self):
        self.assertEqual(lines_of(TEXT), LINES)
        self.assertEqual(kinds(lines_of(TEXT)), kinds(LINES))
        self.assertEqual(lines_of(""), ())
        self.assertEqual(lines_of("0 start"), ())
        self.assertEqual(lines_of(TEXT + "5 do go 6"), LINES)

    def test_texts_that_arent_whole(self):
        rows = TEXT.split("\n")[:-1]
        for wrong in (
            "\n", " \n", "0\n", "0 start\n", "x\n", "\n" + TEXT, TEXT + "\n", row_told(1, "start"), row_told(0, "start") * 2,
            TEXT.replace("home", "hone"), TEXT.replace("42761864", "42761865"), TEXT.replace("42761864", "042761864"),
            TEXT.replace("0 deed", "00 deed"), TEXT.replace("1 deed", "1  deed"), TEXT.replace("\n", " \n"),
            "\n".join(rows[1:]) + "\n", "\n".join(rows[:2] + rows[3:]) + "\n", "\n".join(rows[::-1]) + "\n",
        ):
            with self.assertRaises(BadStore, msg=wrong):
                lines_of(wrong)
            with self.assertRaises(BadStore, msg=wrong):
                done_again(wrong)

    def test_every_sign_counts(self):
        row = row_told(0, "start home")
        for place in range(len(row) - 1):
            for sign in "a0 ":
                other = row[:place] + sign + row[place + 1:]
                if other != row:
                    with self.assertRaises(BadStore):
                        lines_of(other)

    def test_done_again(self):
        told = desk()
        for line in ("do go", "can", "do no", "start shop", "deed sell needs milk drops milk cost=9999", "do buy", "goal !milk", "plan"):
            told.say(line)
        again = done_again(told.text)
        self.assertIsInstance(again, Desk)
        self.assertEqual(shown(again), shown(told))
        self.assertEqual([again.say("do sell"), told.say("do sell")], ["shop", "shop"])
        self.assertEqual(shown(again), shown(told))
        self.assertEqual(shown(done_again("")), shown(Desk()))

    def test_a_text_cut_behind_any_line_and_anywhere(self):
        told, texts = Desk(), [""]
        shots = [shown(told)]
        for line in LINES + ("do go", "do wait", "do buy", "start", "goal"):
            told.say(line)
            texts.append(told.text)
            shots.append(shown(told))
        for text, shot in zip(texts, shots):
            self.assertEqual(shown(done_again(text)), shot)
        for place in range(len(told.text)):
            cut = told.text[:place]
            self.assertEqual(shown(done_again(cut)), shots[cut.count("\n")])

    def test_what_cant_be(self):
        for lines in (
            ("do go",), ("can",), ("start a", "can"), ("start a", "states", "start b"), ("start A",), ("deed x", "deed x"), ("goal a !a",),
            ("check",), ("",), ("deed",), ("deed x needs a", "do x"), ("start  a",), (" start a",), ("start a ",), ("start\ta",),
            ("plan",), ("no",), ("deed x cost=10000",), ("start a", "goal z", "plan"),
        ):
            text = "".join(row_told(place, line) for place, line in enumerate(lines))
            self.assertEqual(lines_of(text), lines)
            with self.assertRaises(BadStore, msg=lines):
                done_again(text)

    def test_a_row_without_an_end_is_left_out(self):
        self.assertEqual(shown(done_again(TEXT + "5 do no")), shown(desk()))
        self.assertEqual(shown(done_again(TEXT[:-1])), shown(done_again("\n".join(TEXT.split("\n")[:4]) + "\n")))

    def test_many(self):
        for seed in range(40):
            problem = rand_problem(seed)
            rand = random.Random(seed)
            told = Desk()
            for deed in problem.deeds.values():
                told.say("deed " + told_deed(deed))
            told.say(" ".join(("start",) + problem.start))
            self.assertEqual(told.say(" ".join(("goal",) + problem.goal + tuple("!" + fact for fact in problem.bars))), " ".join(problem.start))
            self.assertEqual(told.problem.shown(), problem.shown())
            state = problem.start
            for _ in range(8):
                names = told.say("can").split()
                self.assertEqual(names, [deed.name for deed in problem.choices(state)])
                try:
                    cost, plan = cheapest(from_state(problem, state))
                    self.assertEqual(told.say("plan"), " ".join((str(cost),) + plan))
                    self.assertEqual(told.say(" ".join(("check",) + plan)), str(cost))
                except NoPlan:
                    self.assertEqual(told.say("plan"), "error: no plan")
                name = rand.choice(list(problem.deeds))
                after = behind(state, problem.deeds[name])
                if after is None:
                    self.assertEqual(told.say("do " + name), "error: deed")
                else:
                    self.assertEqual(told.say("do " + name), " ".join(after))
                    state = after
                self.assertEqual(told.state, state)
            self.assertEqual(shown(done_again(told.text)), shown(told))


if __name__ == "__main__":
    unittest.main()
