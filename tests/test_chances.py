"""Chances: the ways a name may end, policies that surely come to the goal or do if tried on, and what is refused."""

import random
import unittest
from itertools import product

from planwright.chances import (
    Chancy, beaten, best_steps, check_sure, check_tried, other_end, outcomes, policy, sure, tried_on,
)
from planwright.deeds import Deed, plain
from planwright.errors import BadDeed, BadFact, BadPaper, BadSize, NoPlan, NoSuch
from planwright.problems import Problem
from samples import behind, chain, kinds, lamp, meets, rand_problem

SEEDS = range(60)


def toss():
    """Return a chancy problem: a coin is tossed till it shows heads; it may be lost on the way, or bought anew."""
    tossed = Deed("toss", ["coin"], [], ["heads"], [], 2)
    problem = Problem(["coin"], [
        plain("spend", ["coin"], ["tea"], ["coin"]), tossed, plain("beg", ["tea"], ["coin"], ["tea"]),
        plain("take", ["heads"], ["won"], ["heads"]),
    ], ["won"])
    return Chancy(problem, {"toss": [other_end(tossed, [], []), other_end(tossed, [], ["coin"])]})


def steps():
    """Return a chancy problem of places: from a to b and c and g, where names may end in several of them."""
    rows = [("ab", "a", ["b", "c"]), ("ac", "a", ["c", "d"]), ("bg", "b", ["g"]), ("cg", "c", ["b", "g"]),
            ("ca", "c", ["a"]), ("da", "d", ["a", "d"]), ("ag", "a", ["g", "e"])]
    return places(rows, "a", "g")


def places(rows, start, goal):
    """Return a chancy problem of one fact at a time, by (name, from, rows of to) rows."""
    deeds = [plain(name, [one], [others[0]], [one]) for name, one, others in rows]
    ends = {name: [plain(name, [one], [other], [one]) for other in others[1:]] for name, one, others in rows}
    return Chancy(Problem([start], deeds, [goal]), {name: row for name, row in ends.items() if row})


def rand_chancy(seed, many=4, deeds=5):
    """Return one of many chancy problems, the same for the same seed."""
    rand = random.Random(seed)
    problem = rand_problem(seed, many, deeds)
    names = problem.all_facts()
    ends = {}
    for deed in problem.deeds.values():
        others = []
        for _ in range(rand.choice([0, 0, 1, 1, 2])):
            others.append(other_end(deed, rand.sample(names, rand.randint(0, 2)), rand.sample(names, rand.randint(0, 2))))
        if others or rand.randint(0, 1):
            ends[deed.name] = others
    return Chancy(problem, ends)


def graph_of(chancy):
    """Return a dict of all states that may be come to, the nearest first, to (name, states behind it) rows."""
    found, left = {}, [chancy.problem.start]
    while left:
        state = left.pop(0)
        if state not in found:
            found[state] = []
            for name in chancy.problem.deeds:
                row = list(dict.fromkeys(behind(state, deed) for deed in chancy.ends[name]))
                if row != [None]:
                    found[state].append((name, row))
                    left.extend(row)
    return found


def sure_told(chancy, graph):
    """Return the table of states to the least (steps at most, place of name, name), worked out step by step."""
    found = {state: (0, -1, None) for state in graph if meets(chancy.problem, state)}
    for _ in graph:
        for state, rows in graph.items():
            if not meets(chancy.problem, state):
                told = [
                    (1 + max(found[after][0] for after in row), place, name)
                    for place, (name, row) in enumerate(rows) if all(after in found for after in row)
                ]
                if told:
                    found[state] = min(told)
    return {state: (name, steps) for state, (steps, _, name) in found.items()}


def in_reach(chancy, graph, names):
    """Return the states from which a policy's names may come to the goal."""
    found = {state for state in graph if meets(chancy.problem, state)}
    for _ in graph:
        for state, name in names.items():
            if any(mine == name and set(row) & found for mine, row in graph[state]):
                found.add(state)
    return found


def kept_in_reach(chancy, graph, state, names):
    """Tell whether a policy, from a state on, has a name in each state that it may come to, the goal still in reach."""
    good = in_reach(chancy, graph, names)
    seen, left = set(), [state]
    while left:
        state = left.pop()
        if state not in seen:
            seen.add(state)
            if state not in good:
                return False
            if not meets(chancy.problem, state):
                left.extend(after for mine, row in graph[state] if mine == names[state] for after in row)
    return True


class ChancyTest(unittest.TestCase):
    def test_fields(self):
        chancy = toss()
        self.assertIsInstance(chancy.problem, Problem)
        self.assertEqual([type(chancy.ends), type(chancy.ends["toss"])], [dict, tuple])
        self.assertIs(chancy.ends["toss"][0], chancy.problem.deeds["toss"])
        self.assertEqual([deed.shown() for deed in chancy.ends["toss"]], [
            ("toss", ("coin",), (), ("heads",), (), 2), ("toss", ("coin",), (), (), (), 2),
            ("toss", ("coin",), (), (), ("coin",), 2),
        ])
        self.assertEqual(chancy.ends["take"], (chancy.problem.deeds["take"],))

    def test_what_was_handed_in_stays(self):
        problem = lamp()
        ends = {"go": [other_end(problem.deeds["go"], [], [])]}
        chancy = Chancy(problem, ends)
        self.assertEqual([list(ends), len(ends["go"])], [["go"], 1])
        ends["go"].append(1)
        ends["light"] = []
        self.assertEqual(len(chancy.ends["go"]), 2)

    def test_refused(self):
        problem = lamp()
        for name in ("no", "", "GO"):
            with self.assertRaises(NoSuch):
                Chancy(problem, {name: []})
        light = problem.deeds["light"]
        for deed in (
            Deed("light", [], ["broken"], ["lit"], []), Deed("light", ["in"], [], ["lit"], []),
            Deed("light", ["in", "out"], ["broken"], ["lit"], []), Deed("light", ["in"], ["broken", "lit"], [], []),
        ):
            for row in ([deed], [other_end(light, [], []), deed], (deed, other_end(light, [], []))):
                with self.assertRaises(BadDeed):
                    Chancy(problem, {"light": row})
        self.assertEqual(len(Chancy(problem, {"light": (light, light)}).ends["light"]), 3)
        self.assertEqual(Chancy(problem, {}).choices(("out",)), ("go",))

    def test_other_end(self):
        deed = Deed("d", ["a"], ["b"], ["c"], ["a"], 5)
        self.assertEqual(other_end(deed, ["x", "d"], ["c", "x"]).shown(), ("d", ("a",), ("b",), ("d", "x"), ("c",), 5))
        self.assertEqual(other_end(deed, (), ()).shown(), ("d", ("a",), ("b",), (), (), 5))
        for adds, drops in ((["A"], []), ([], [""])):
            with self.assertRaises(BadFact):
                other_end(deed, adds, drops)

    def test_after(self):
        chancy = toss()
        self.assertEqual(chancy.after(("coin",), "toss"), (("coin", "heads"), ("coin",), ()))
        self.assertEqual(chancy.after(["coin", "heads"], "toss"), (("coin", "heads"), ("heads",)))
        self.assertEqual(chancy.after(("coin",), "spend"), (("tea",),))
        self.assertEqual([type(chancy.after(("coin",), "toss")), type(chancy.after(("coin",), "toss")[1])], [tuple] * 2)

    def test_two_ends_alike(self):
        deed = plain("d", [], ["a"], [])
        chancy = Chancy(Problem([], [deed], ["a"]), {"d": [other_end(deed, ["a"], []), other_end(deed, [], [])]})
        self.assertEqual(chancy.after((), "d"), (("a",), ()))
        self.assertEqual(chancy.after(("a",), "d"), (("a",),))

    def test_after_refused(self):
        chancy = toss()
        for name in ("no", ""):
            with self.assertRaises(NoSuch):
                chancy.after(("coin",), name)
        for name in ("take", "beg"):
            with self.assertRaises(BadDeed):
                chancy.after(("coin",), name)
        with self.assertRaises(BadDeed):
            chancy.after((), "toss")

    def test_choices(self):
        chancy = toss()
        self.assertEqual(chancy.choices(("coin", "heads", "tea")), ("spend", "toss", "beg", "take"))
        self.assertEqual(chancy.choices(["heads"]), ("take",))
        self.assertEqual(chancy.choices(()), ())
        self.assertEqual(type(chancy.choices(())), tuple)

    def test_states(self):
        self.assertEqual(toss().states()[:5], (("coin",), ("tea",), ("coin", "heads"), (), ("heads", "tea")))
        self.assertEqual(steps().states(), (("a",), ("b",), ("c",), ("d",), ("g",), ("e",)))
        self.assertEqual(kinds(steps().states()), kinds((("a",),) * 6))
        for seed in SEEDS:
            chancy = rand_chancy(seed)
            self.assertEqual(chancy.states(), tuple(graph_of(chancy)))

    def test_as_many_states_as_most_and_one_more(self):
        chancy = steps()
        self.assertEqual(len(chancy.states(6)), 6)
        for asked in (sure, tried_on, beaten):
            self.assertEqual(asked(chancy, 6), asked(chancy))
        for most in (1, 5):
            for asked in (chancy.states, lambda most: sure(chancy, most), lambda most: tried_on(chancy, most), lambda most: beaten(chancy, most)):
                with self.assertRaises(BadSize):
                    asked(most)
        self.assertEqual(Chancy(Problem(["a"], [], []), {}).states(1), (("a",),))

    def test_as_many_states_as_most_where_it_is_not_told(self):
        last, past = Chancy(chain(500), {}), Chancy(chain(501), {})
        self.assertEqual([len(last.states()), len(sure(last)), len(tried_on(last)), len(beaten(last))], [500, 500, 500, 0])
        for asked in (past.states, lambda: sure(past), lambda: tried_on(past), lambda: beaten(past)):
            with self.assertRaises(BadSize):
                asked()


class SureTest(unittest.TestCase):
    def test_sure(self):
        found = sure(steps())
        self.assertEqual(found, {
            ("a",): ("ab", 3), ("b",): ("bg", 1), ("c",): ("cg", 2), ("g",): (None, 0),
        })
        self.assertEqual(kinds(list(found.items())), kinds([(("a",), ("ab", 3))] * 3 + [(("g",), (None, 0))]))
        self.assertEqual(list(found), [("a",), ("b",), ("c",), ("g",)])

    def test_the_first_name_as_told(self):
        self.assertEqual(sure(places([("x", "a", "b"), ("y", "a", "g"), ("z", "a", "g"), ("w", "b", "g")], "a", "g")), {
            ("a",): ("y", 1), ("b",): ("w", 1), ("g",): (None, 0),
        })

    def test_none(self):
        self.assertEqual(sure(toss()), {state: (None, 0) for state in toss().states() if "won" in state} | {
            state: ("take", 1) for state in toss().states() if "heads" in state and "won" not in state
        })
        self.assertEqual(sure(places([("x", "a", ["a", "g"])], "a", "g")), {("g",): (None, 0)})
        self.assertEqual(sure(Chancy(Problem(["a"], [], ["g"]), {})), {})

    def test_the_start_is_a_goal(self):
        chancy = places([("x", "a", "b"), ("y", "b", "a")], "a", "a")
        for asked in (sure, tried_on):
            self.assertEqual(asked(chancy), {("a",): (None, 0), ("b",): ("y", 1)})
            self.assertEqual(policy(asked(chancy), ("a",)), {("b",): "y"})
        self.assertEqual(check_sure(chancy, {}, {}), 0)
        self.assertEqual(check_tried(chancy, {}), 1)
        self.assertEqual(outcomes(chancy, {}, 5), (("a",),))
        self.assertEqual(beaten(chancy), ())

    def test_many(self):
        more = 0
        for seed in range(240):
            chancy = rand_chancy(seed)
            graph = graph_of(chancy)
            found = sure(chancy)
            self.assertEqual(found, sure_told(chancy, graph), seed)
            self.assertEqual(list(found), [state for state in graph if state in found])
            more += any(count > 2 for _, count in found.values())
        self.assertGreater(more, 5)

    def test_every_end_comes_to_the_goal(self):
        drawn = 0
        for seed in range(240):
            chancy = rand_chancy(seed, 5, 6)
            found = sure(chancy)
            if chancy.problem.start in found:
                names = policy(found, chancy.problem.start)
                ranks = {state: count for state, (_, count) in found.items()}
                count = found[chancy.problem.start][1]
                self.assertEqual(check_sure(chancy, names, ranks), count)
                self.assertGreaterEqual(check_tried(chancy, names), 1)
                ends = outcomes(chancy, names, count)
                for some in range(count + 1):
                    here = outcomes(chancy, names, some)
                    self.assertEqual(list(here), sorted(set(here)))
                self.assertTrue(all(meets(chancy.problem, state) for state in ends))
                if count > 0:
                    self.assertFalse(all(meets(chancy.problem, state) for state in outcomes(chancy, names, count - 1)))
                drawn += len(ends)
        self.assertGreater(drawn, 40)


class TriedTest(unittest.TestCase):
    def test_tried_on(self):
        found = tried_on(steps())
        self.assertEqual(found, {
            ("a",): ("ab", 2), ("b",): ("bg", 1), ("c",): ("cg", 1), ("d",): ("da", 3), ("g",): (None, 0),
        })
        self.assertEqual(kinds(list(found.items())), kinds([(("a",), ("ab", 2))] * 4 + [(("g",), (None, 0))]))
        self.assertEqual(list(found), [("a",), ("b",), ("c",), ("d",), ("g",)])

    def test_what_may_be_tried_again(self):
        chancy = places([("x", "a", ["a", "g"])], "a", "g")
        self.assertEqual(tried_on(chancy), {("a",): ("x", 1), ("g",): (None, 0)})
        self.assertEqual(beaten(chancy), ())
        self.assertEqual(check_tried(chancy, {("a",): "x"}), 2)

    def test_names_that_lead_out_of_those_that_are_left(self):
        # From e nothing goes on, so "bg" leads out, then "ab" does too.
        chancy = places([("ab", "a", ["b"]), ("bg", "b", ["g", "e"]), ("ac", "a", ["c"]), ("cd", "c", ["d"]), ("dg", "d", ["g", "a"])], "a", "g")
        self.assertEqual(tried_on(chancy), {("a",): ("ac", 3), ("c",): ("cd", 2), ("d",): ("dg", 1), ("g",): (None, 0)})
        self.assertEqual(beaten(chancy), (("b",), ("e",)))

    def test_best_steps(self):
        chancy = steps()
        self.assertEqual(best_steps(chancy, {state: True for state in chancy.states()}), {
            ("a",): ("ag", 1), ("b",): ("bg", 1), ("c",): ("cg", 1), ("d",): ("da", 2), ("g",): (None, 0),
        })
        alive = {("g",): True, ("a",): True, ("c",): True, ("d",): True}
        self.assertEqual(best_steps(chancy, alive), {("g",): (None, 0)})
        self.assertEqual(list(alive), [("g",), ("a",), ("c",), ("d",)])
        alive = {("g",): True, ("c",): True, ("b",): True}
        self.assertEqual(list(best_steps(chancy, alive).items()), [(("g",), (None, 0)), (("c",), ("cg", 1)), (("b",), ("bg", 1))])
        self.assertEqual(best_steps(chancy, {}), {})
        self.assertEqual(best_steps(chancy, {("a",): True}), {})

    def test_many(self):
        kept = 0
        for seed in SEEDS:
            chancy = rand_chancy(seed)
            graph = graph_of(chancy)
            found = tried_on(chancy)
            self.assertEqual(list(found), [state for state in graph if state in found])
            self.assertEqual(found, best_steps(chancy, found))
            self.assertEqual(beaten(chancy), tuple(state for state in graph if state not in found))
            open_states = [state for state in graph if not meets(chancy.problem, state)]
            self.check_steps(chancy, graph, found)
            choices = [[name for name, _ in graph[state]] or [None] for state in open_states]
            ways = 1
            for row in choices:
                ways *= len(row)
            if ways <= 200:
                kept += 1
                policies = [dict(zip(open_states, names)) for names in product(*choices)]
                for state in graph:
                    told = any(kept_in_reach(chancy, graph, state, names) for names in policies)
                    self.assertIs(state in found, told, (seed, state))
            names = {state: name for state, (name, _) in found.items()}
            self.assertTrue(all(kept_in_reach(chancy, graph, state, names) for state in found))
        self.assertGreater(kept, 15)

    def check_steps(self, chancy, graph, found):
        """Check steps at best, and that the first name as told is there."""
        far = {state: 0 for state in found if meets(chancy.problem, state)}
        for _ in graph:
            for state in found:
                for _, row in graph[state]:
                    if set(row) <= set(found) and not meets(chancy.problem, state):
                        for after in row:
                            if after in far:
                                far[state] = min(far.get(state, 10 ** 6), far[after] + 1)
        for state, (name, count) in found.items():
            self.assertEqual(count, far[state])
            if count == 0:
                self.assertIsNone(name)
            else:
                good = [
                    mine for mine, row in graph[state]
                    if set(row) <= set(found) and min(far[after] for after in row) == count - 1
                ]
                self.assertEqual(name, good[0])

    def test_beaten(self):
        self.assertEqual(beaten(steps()), (("e",),))
        self.assertEqual(type(beaten(steps())), tuple)
        self.assertEqual(beaten(Chancy(Problem(["a"], [], ["g"]), {})), (("a",),))


class PolicyTest(unittest.TestCase):
    def test_policy(self):
        table = sure(steps())
        self.assertEqual(policy(table, ("a",)), {("a",): "ab", ("b",): "bg", ("c",): "cg"})
        self.assertEqual(policy(table, ["b"]), policy(table, ("a",)))
        self.assertEqual(type(policy(table, ("a",))), dict)
        self.assertEqual(policy({("g",): (None, 0)}, ("g",)), {})
        self.assertEqual(table, sure(steps()))
        for start in (("d",), ("e",), (), ["q"]):
            with self.assertRaises(NoPlan):
                policy(table, start)

    def test_check_sure(self):
        chancy = steps()
        names = {("a",): "ab", ("b",): "bg", ("c",): "cg"}
        ranks = {("a",): 3, ("b",): 1, ("c",): 2}
        self.assertEqual(check_sure(chancy, names, ranks), 3)
        self.assertEqual(check_sure(chancy, names, {("a",): 90, ("b",): 4, ("c",): 20, ("g",): 99, ("q",): 100}), 90)
        for name in ("a", "b", "c"):
            with self.assertRaises(BadPaper):
                check_sure(chancy, {state: told for state, told in names.items() if state != (name,)}, ranks)
            with self.assertRaises(BadPaper):
                check_sure(chancy, names, {state: told for state, told in ranks.items() if state != (name,)})
        for other in ({("c",): 1}, {("a",): 2}, {("a",): 1}, {("b",): 3}, {("b",): 2}, {("c",): 3}):
            with self.assertRaises(BadPaper):
                check_sure(chancy, names, {**ranks, **other})
        self.assertEqual((names, ranks), ({("a",): "ab", ("b",): "bg", ("c",): "cg"}, {("a",): 3, ("b",): 1, ("c",): 2}))

    def test_policies_that_cant_be_done(self):
        chancy = steps()
        for name, error in (("bg", BadDeed), ("no", NoSuch)):
            names = {("a",): name, ("b",): "bg", ("c",): "cg"}
            for asked in (
                lambda: check_sure(chancy, names, {("a",): 3, ("b",): 1, ("c",): 2}),
                lambda: check_tried(chancy, names), lambda: outcomes(chancy, names, 1),
            ):
                with self.assertRaises(error):
                    asked()

    def test_check_tried(self):
        chancy = steps()
        self.assertEqual(check_tried(chancy, {("a",): "ab", ("b",): "bg", ("c",): "ca"}), 4)
        self.assertEqual(check_tried(chancy, {("a",): "ac", ("c",): "cg", ("d",): "da", ("b",): "bg"}), 5)
        for names in (
            {("a",): "ab", ("b",): "bg"}, {("b",): "bg", ("c",): "ca"}, {}, {("a",): "ag"},
            {("a",): "ac", ("c",): "ca", ("d",): "da"},
        ):
            with self.assertRaises(BadPaper):
                check_tried(chancy, names)
        stuck = places([("x", "a", ["b", "g"]), ("y", "b", ["b"])], "a", "g")
        with self.assertRaises(BadPaper):
            check_tried(stuck, {("a",): "x", ("b",): "y"})

    def test_many_tried(self):
        good = 0
        for seed in SEEDS:
            chancy = rand_chancy(seed)
            graph = graph_of(chancy)
            rand = random.Random(seed)
            for _ in range(20):
                names = {
                    state: rand.choice(rows)[0] for state, rows in graph.items()
                    if rows and not meets(chancy.problem, state) and rand.random() < 0.95
                }
                if kept_in_reach(chancy, graph, chancy.problem.start, names):
                    good += 1
                    self.assertEqual(check_tried(chancy, names), len(self.come_to(chancy, graph, names)))
                else:
                    with self.assertRaises(BadPaper):
                        check_tried(chancy, names)
        self.assertGreater(good, 50)

    def come_to(self, chancy, graph, names):
        """Return the states that a policy may come to."""
        seen, left = set(), [chancy.problem.start]
        while left:
            state = left.pop()
            if state not in seen:
                seen.add(state)
                if not meets(chancy.problem, state):
                    left.extend(after for mine, row in graph[state] if mine == names[state] for after in row)
        return seen

    def test_outcomes(self):
        chancy = steps()
        names = {("a",): "ab", ("b",): "bg", ("c",): "cg"}
        for count, told in ((0, "a"), (1, "bc"), (2, "bg"), (3, "g"), (9, "g")):
            self.assertEqual(outcomes(chancy, names, count), tuple((name,) for name in told))
        self.assertEqual(kinds(outcomes(chancy, names, 1)), kinds((("b",), ("c",))))
        wide = places([("go", "a", ["f", "e", "b", "d", "c"])], "a", "g")
        self.assertEqual(outcomes(wide, {("a",): "go"}, 1), (("b",), ("c",), ("d",), ("e",), ("f",)))
        self.assertEqual(outcomes(chancy, {}, 0), (("a",),))
        for count in (-1, -5):
            with self.assertRaises(BadSize):
                outcomes(chancy, names, count)
            with self.assertRaises(BadSize):
                outcomes(chancy, {}, count)
        self.assertEqual(outcomes(chancy, {("a",): "ab"}, 1), (("b",), ("c",)))
        for count, names in ((1, {}), (2, {("a",): "ab", ("b",): "bg"}), (1, {("b",): "bg"})):
            with self.assertRaises(BadPaper):
                outcomes(chancy, names, count)


if __name__ == "__main__":
    unittest.main()
