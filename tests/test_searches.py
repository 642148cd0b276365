"""Searches: cheapest plans, plans by heights, forward and backward, papers of heights, and what is refused."""

import unittest

from planwright.deeds import Deed, back_from, plain
from planwright.errors import BadDeed, BadFact, BadPaper, BadPlan, BadSize, NoPlan, NoSuch
from planwright.problems import Problem, reached
from planwright.searches import (
    all_costs, all_plans, backward, check_heights, check_none, cheapest, eager, fewest, queued,
)
from samples import behind, chain, edges, lamp, least_steps, meets, rand_problem, true_costs, walk, wheels

SEEDS = range(120)
# Two thousand states, and two thousand and one.
MANY, MORE = (10, 10, 20), (3, 23, 29)


def rooms():
    """Return a problem of two ways: a short dear one and a long cheap one, the dear one told first."""
    return walk([("jump", "a", "d", 9), ("ab", "a", "b", 2), ("bc", "b", "c", 2), ("cd", "c", "d", 2)], "a", "d")


def anew():
    """Return a problem in which x comes first at a great cost, and anew, behind y, at the same cost as y."""
    return walk(
        [("sx", "s", "x", 5), ("sm", "s", "m", 1), ("sy", "s", "y", 2), ("mx", "m", "x", 1), ("xg", "x", "g", 1),
         ("yg", "y", "g", 1)],
        "s", "g",
    )


def by_table(table):
    """Return a function of heights by the one fact of a state."""
    return lambda state: table.get(state[0], 0)


class CheapestTest(unittest.TestCase):
    def test_the_cheapest_plan_and_its_cost(self):
        self.assertEqual(cheapest(rooms()), (6, ("ab", "bc", "cd")))
        self.assertEqual(cheapest(lamp()), (2, ("go", "light")))

    def test_a_goal_at_the_start(self):
        self.assertEqual(cheapest(walk([("ab", "a", "b", 0)], "a", "a")), (0, ()))
        self.assertEqual(cheapest(Problem([], [], [])), (0, ()))

    def test_barred_facts_of_the_goal(self):
        deeds = [plain("out", ["a"], [], ["a"], 3), plain("add", [], ["g"], [])]
        self.assertEqual(cheapest(Problem(["a"], deeds, ["g"], ["a"])), (4, ("add", "out")))
        self.assertEqual(cheapest(Problem(["a"], deeds, [], ["a"])), (3, ("out",)))

    def test_no_plan(self):
        for problem in (walk([("ab", "a", "b", 1)], "a", "c"), walk([("ba", "b", "a", 1)], "a", "b"), Problem([], [], ["g"])):
            with self.assertRaises(NoPlan):
                cheapest(problem)

    def test_deeds_that_cost_nought(self):
        free = walk([("ab", "a", "b", 0), ("ba", "b", "a", 0), ("bc", "b", "c", 0), ("ac", "a", "c", 1)], "a", "c")
        self.assertEqual(cheapest(free), (0, ("ab", "bc")))

    def test_like_costs_go_as_they_came(self):
        for names in (("p", "q"), ("q", "p")):
            problem = walk([(name, "a", "b", 1) for name in names], "a", "b")
            self.assertEqual(cheapest(problem), (1, names[:1]))
        problem = walk([("dear", "a", "c", 2), ("ab", "a", "b", 1), ("bc", "b", "c", 1)], "a", "c")
        self.assertEqual(cheapest(problem), (2, ("dear",)))
        two = walk([("ax", "a", "x", 1), ("ay", "a", "y", 1), ("yg", "y", "g", 1), ("xg", "x", "g", 1)], "a", "g")
        self.assertEqual(cheapest(two), (2, ("ax", "xg")))

    def test_a_state_comes_anew_by_a_cheaper_way(self):
        self.assertEqual(cheapest(anew()), (3, ("sy", "yg")))

    def test_a_cheaper_way_to_the_goal_found_later(self):
        problem = walk([("ag", "a", "g", 4), ("ab", "a", "b", 1), ("bg", "b", "g", 2)], "a", "g")
        self.assertEqual(cheapest(problem), (3, ("ab", "bg")))

    def test_most(self):
        self.assertEqual(cheapest(chain(5), 5), (4, ("d0", "d1", "d2", "d3")))
        with self.assertRaises(BadSize):
            cheapest(chain(5), 4)
        with self.assertRaises(NoPlan):
            cheapest(walk([("ab", "a", "b", 1), ("bc", "b", "c", 1)], "a", "z"), 3)
        with self.assertRaises(BadSize):
            cheapest(walk([("ab", "a", "b", 1), ("bc", "b", "c", 1)], "a", "z"), most=2)

    def test_most_counts_states_once(self):
        problem = walk([("ab", "a", "b", 5), ("ac", "a", "c", 1), ("cb", "c", "b", 1), ("ba", "b", "a", 1)], "a", "b")
        self.assertEqual(cheapest(problem, 3), (2, ("ac", "cb")))
        with self.assertRaises(BadSize):
            cheapest(problem, 2)

    def test_most_is_two_thousand_where_it_is_left_out(self):
        with self.assertRaises(NoPlan):
            cheapest(wheels(MANY, ["none"]))
        with self.assertRaises(BadSize):
            cheapest(wheels(MORE, ["none"]))

    def test_states_behind_the_goal_count_only_if_they_are_come_to(self):
        problem = walk([("ab", "a", "b", 1), ("bc", "b", "c", 1), ("cd", "c", "d", 1)], "a", "b")
        self.assertEqual(cheapest(problem, 2), (1, ("ab",)))

    def test_kinds(self):
        found = cheapest(lamp())
        self.assertIs(type(found), tuple)
        self.assertIs(type(found[1]), tuple)

    def test_the_least_cost_of_many_problems(self):
        plans = 0
        for seed in SEEDS:
            problem = rand_problem(seed)
            costs = true_costs(problem)
            if costs[problem.start] is None:
                with self.assertRaises(NoPlan):
                    cheapest(problem)
                with self.assertRaises(NoPlan):
                    cheapest(problem, height=costs.get)
                continue
            plans += 1
            for found in (cheapest(problem), cheapest(problem, 2000, costs.get)):
                self.assertEqual(found[0], costs[problem.start], seed)
                self.assertEqual(problem.check(found[1]), found[0], seed)
        self.assertGreater(plans, 40)

    def test_the_problem_stays_as_it_is(self):
        problem = lamp()
        shown = problem.shown()
        cheapest(problem)
        with self.assertRaises(BadSize):
            cheapest(problem, 1)
        self.assertEqual(problem.shown(), shown)


class HeightTest(unittest.TestCase):
    def test_states_are_taken_by_cost_and_height(self):
        # The height is too great in b, so the dear way is come to first.
        self.assertEqual(cheapest(rooms(), 2000, by_table({"b": 8})), (9, ("jump",)))
        self.assertEqual(cheapest(rooms(), 2000, by_table({"b": 6})), (6, ("ab", "bc", "cd")))
        self.assertEqual(cheapest(rooms(), 2000, by_table({"b": 7})), (9, ("jump",)))
        self.assertEqual(cheapest(rooms(), 2000, by_table({"c": 7})), (9, ("jump",)))

    def test_a_height_counts_beside_the_cost(self):
        problem = walk([("ab", "a", "b", 1), ("ac", "a", "c", 3), ("bg", "b", "g", 9), ("cg", "c", "g", 7)], "a", "g")
        self.assertEqual(cheapest(problem), (10, ("ab", "bg")))
        self.assertEqual(cheapest(problem, height=by_table({"b": 3})), (10, ("ac", "cg")))
        self.assertEqual(cheapest(problem, height=by_table({"b": 2})), (10, ("ab", "bg")))
        self.assertEqual(cheapest(problem, height=by_table({"b": 2, "c": -1})), (10, ("ac", "cg")))

    def test_a_height_is_asked_with_a_state(self):
        asked = []

        def height(state):
            asked.append(state)
            return 0

        cheapest(lamp(), height=height)
        self.assertEqual(asked[:2], [("out",), ("in",)])
        self.assertTrue(all(type(state) is tuple for state in asked))

    def test_a_height_of_none_is_never_taken(self):
        self.assertEqual(cheapest(rooms(), height=by_table({"c": None})), (9, ("jump",)))
        for table in ({"a": None}, {"d": None}, {"d": None, "c": None}):
            with self.assertRaises(NoPlan):
                cheapest(rooms(), height=by_table(table))

    def test_a_state_of_no_height_counts_as_come_to(self):
        with self.assertRaises(BadSize):
            cheapest(rooms(), 2, by_table({"b": None, "d": 9}))
        self.assertEqual(cheapest(rooms(), 3, by_table({"b": None})), (9, ("jump",)))

    def test_a_state_is_taken_again_where_a_cheaper_way_is_found_later(self):
        # The height of m is too great, so x is taken at 3 before it comes at 2.
        problem = walk([("sx", "s", "x", 3), ("sm", "s", "m", 1), ("mx", "m", "x", 1), ("xg", "x", "g", 5)], "s", "g")
        self.assertEqual(cheapest(problem, height=by_table({"m": 4})), (7, ("sm", "mx", "xg")))


class QueuedTest(unittest.TestCase):
    def test_a_state_is_put_in_by_cost_and_height(self):
        left = []
        for count, (cost, state) in enumerate([(3, ("c",)), (1, ("a",)), (2, ("b",)), (1, ("z",)), (3, ("a",))]):
            left = queued(left, cost, count, state, None)
        self.assertEqual([row[-1] for row in left], [("a",), ("z",), ("b",), ("c",), ("a",)])
        left = []
        for count, (cost, state) in enumerate([(3, ("c",)), (1, ("a",)), (2, ("b",))]):
            left = queued(left, cost, count, state, by_table({"a": 9, "c": 1}))
        self.assertEqual([row[-1] for row in left], [("b",), ("c",), ("a",)])

    def test_a_row_within_is_cost_and_height_count_and_state(self):
        self.assertEqual(queued([], 2, 7, ("a",), by_table({"a": 3})), [(5, 7, ("a",))])
        self.assertEqual(queued([(5, 7, ("a",))], 4, 8, ("b",), None), [(4, 8, ("b",)), (5, 7, ("a",))])

    def test_like_ones_stand_as_they_came(self):
        left = []
        for count in (4, 2, 9, 0, 7):
            left = queued(left, 5 - count, count, ("s%d" % count,), lambda state: int(state[0][1:]))
        self.assertEqual([row[-1] for row in left], [("s0",), ("s2",), ("s4",), ("s7",), ("s9",)])

    def test_all_orders_of_coming(self):
        for size in range(7):
            left = []
            for count in range(size):
                left = queued(left, (count * 5) % 3, count, (count,), None)
            self.assertEqual([row[-1][0] for row in left], sorted(range(size), key=lambda k: ((k * 5) % 3, k)))

    def test_none_for_a_height_of_none(self):
        self.assertEqual(queued([], 1, 0, ("a",), lambda state: None), [])
        left = queued([], 1, 0, ("a",), lambda state: 0)
        self.assertEqual(queued(left, 0, 1, ("b",), lambda state: None), left)

    def test_a_height_of_nought_is_put_in(self):
        self.assertEqual(len(queued([], 0, 0, (), lambda state: 0)), 1)

    def test_the_row_stays_as_it_is(self):
        left = queued([], 1, 0, ("a",), None)
        kept = list(left)
        more = queued(left, 0, 1, ("b",), None)
        none = queued(left, 0, 1, ("b",), lambda state: None)
        self.assertEqual(left, kept)
        self.assertEqual([type(row) for row in (more, none, left)], [list] * 3)
        self.assertEqual(len(more), 2)
        self.assertEqual(queued(tuple(left), 0, 1, ("b",), None), more)


class FewestTest(unittest.TestCase):
    def test_the_fewest_deeds(self):
        self.assertEqual(fewest(rooms()), ("jump",))
        self.assertEqual(fewest(lamp()), ("go", "light"))
        self.assertEqual(fewest(walk([("ab", "a", "b", 1)], "a", "a")), ())
        self.assertIs(type(fewest(lamp())), tuple)

    def test_the_first_come_to(self):
        two = walk([("ax", "a", "x", 1), ("ay", "a", "y", 1), ("yg", "y", "g", 0), ("xg", "x", "g", 9)], "a", "g")
        self.assertEqual(fewest(two), ("ax", "xg"))
        deeds = [plain("far", ["x"], ["g"], []), plain("ax", ["a"], ["x"], []), plain("ag", ["a"], ["g"], [])]
        self.assertEqual(fewest(Problem(["a"], deeds, ["g"])), ("ag",))

    def test_barred_facts_of_the_goal(self):
        deeds = [plain("add", [], ["g"], []), plain("out", ["a"], [], ["a"])]
        self.assertEqual(fewest(Problem(["a"], deeds, ["g"], ["a"])), ("add", "out"))

    def test_no_plan(self):
        with self.assertRaises(NoPlan):
            fewest(walk([("ab", "a", "b", 1)], "a", "c"))

    def test_most(self):
        self.assertEqual(fewest(rooms(), 4), ("jump",))
        with self.assertRaises(BadSize):
            fewest(rooms(), 3)
        with self.assertRaises(NoPlan):
            fewest(wheels(MANY, ["none"]))
        with self.assertRaises(BadSize):
            fewest(wheels(MORE, ["none"]))

    def test_many_problems(self):
        for seed in SEEDS:
            problem = rand_problem(seed)
            steps = least_steps(problem)
            if steps is None:
                with self.assertRaises(NoPlan):
                    fewest(problem)
            else:
                plan = fewest(problem)
                problem.check(plan)
                self.assertEqual(len(plan), steps, seed)


class CostsTest(unittest.TestCase):
    def test_all_costs(self):
        found = all_costs(rooms())
        self.assertEqual(found, {("a",): 6, ("d",): 0, ("b",): 4, ("c",): 2})
        self.assertEqual(list(found), list(reached(rooms())))
        self.assertIs(type(found), dict)

    def test_a_dearer_way_that_comes_later_counts_for_nothing(self):
        problem = walk([("ag", "a", "g", 3), ("ab", "a", "b", 5), ("bg", "b", "g", 2)], "a", "g")
        self.assertEqual(all_costs(problem), {("a",): 3, ("g",): 0, ("b",): 2})

    def test_none_where_the_goal_is_not_come_to(self):
        problem = walk([("ab", "a", "b", 1), ("ac", "a", "c", 2), ("cc", "c", "c", 0)], "a", "b")
        self.assertEqual(all_costs(problem), {("a",): 1, ("b",): 0, ("c",): None})
        self.assertEqual(all_costs(walk([("ab", "a", "b", 1)], "a", "c")), {("a",): None, ("b",): None})
        self.assertEqual(all_costs(Problem([], [], [])), {(): 0})

    def test_goals_cost_nought_also_where_they_lead_on(self):
        problem = walk([("ab", "a", "b", 0), ("ba", "b", "a", 0)], "b", "b")
        self.assertEqual(all_costs(problem), {("b",): 0, ("a",): 0})

    def test_most(self):
        self.assertEqual(len(all_costs(rooms(), 4)), 4)
        with self.assertRaises(BadSize):
            all_costs(rooms(), 3)
        self.assertEqual(len(all_costs(wheels(MANY))), 2000)
        with self.assertRaises(BadSize):
            all_costs(wheels(MORE))

    def test_many_problems(self):
        for seed in SEEDS:
            problem = rand_problem(seed)
            found = all_costs(problem)
            self.assertEqual(found, true_costs(problem), seed)
            self.assertEqual(list(found), list(reached(problem)), seed)


class HeightsPaperTest(unittest.TestCase):
    PLAN = ("ab", "bc", "cd")

    def paper(self, **other):
        """Return a right paper of the rooms, with some heights changed."""
        costs = {"a": 6, "b": 4, "c": 2, "d": 0}
        costs.update(other)
        return {(fact,): cost for fact, cost in costs.items()}

    def test_a_right_paper(self):
        self.assertEqual(check_heights(rooms(), self.paper(), self.PLAN), 6)
        self.assertEqual(check_heights(rooms(), self.paper(), list(self.PLAN)), 6)
        self.assertEqual(check_heights(Problem([], [], []), {(): 0}, ()), 0)

    def test_heights_may_be_lower_than_the_costs(self):
        problem = walk([("ab", "a", "b", 2), ("ac", "a", "c", 2), ("cb", "c", "b", 9)], "a", "b")
        for height in (0, 1, 9):
            self.assertEqual(check_heights(problem, {("a",): 2, ("b",): 0, ("c",): height}, ["ab"]), 2)

    def test_none_where_no_deed_leads_to_another(self):
        problem = walk([("ab", "a", "b", 2), ("ac", "a", "c", 2), ("cd", "c", "d", 9), ("dc", "d", "c", 0)], "a", "b")
        right = {("a",): 2, ("b",): 0, ("c",): None, ("d",): None}
        self.assertEqual(check_heights(problem, right, ["ab"]), 2)
        # None may not stand ahead of a number.
        with self.assertRaises(BadPaper):
            check_heights(problem, {**right, ("d",): 9}, ["ab"])

    def test_states_that_are_not_come_to_may_be_there_and_are_checked(self):
        problem = walk([("ab", "a", "b", 2), ("zy", "z", "y", 1)], "a", "b")
        table = {("a",): 2, ("b",): 0}
        self.assertEqual(check_heights(problem, {**table, ("z",): None, ("y",): None}, ["ab"]), 2)
        for more in ({("z",): None}, {("z",): 2, ("y",): 0}, {("z",): None, ("y",): 0}, {("b", "z"): 1}):
            with self.assertRaises(BadPaper):
                check_heights(problem, {**table, **more}, ["ab"])

    def test_no_start(self):
        table = self.paper()
        del table[("a",)]
        with self.assertRaises(BadPaper):
            check_heights(rooms(), table, self.PLAN)
        with self.assertRaises(BadPaper):
            check_heights(rooms(), {}, self.PLAN)

    def test_a_goal_that_is_not_at_nought(self):
        for height in (1, -1, None):
            with self.assertRaises(BadPaper):
                check_heights(rooms(), self.paper(d=height), self.PLAN)
        with self.assertRaises(BadPaper):
            check_heights(walk([], "a", "a"), {("a",): None}, ())
        # All is right but for the goal's height, which is below nought.
        problem = walk([("ab", "a", "b", 1)], "a", "b")
        with self.assertRaises(BadPaper):
            check_heights(problem, {("a",): 1, ("b",): 2}, ("ab",))

    def test_a_state_that_is_missing(self):
        for fact in "bcd":
            table = self.paper()
            del table[(fact,)]
            with self.assertRaises(BadPaper):
                check_heights(rooms(), table, self.PLAN)

    def test_too_steep(self):
        for table in (self.paper(b=3), self.paper(c=1), self.paper(b=7), self.paper(c=3), self.paper(b=None)):
            with self.assertRaises(BadPaper):
                check_heights(rooms(), table, self.PLAN)
        jump = walk([("ab", "a", "b", 1), ("ac", "a", "c", 1), ("cb", "c", "b", 3)], "a", "b")
        self.assertEqual(check_heights(jump, {("a",): 1, ("b",): 0, ("c",): 3}, ["ab"]), 1)
        for height in (4, None):
            with self.assertRaises(BadPaper):
                check_heights(jump, {("a",): 1, ("b",): 0, ("c",): height}, ["ab"])

    def test_not_least(self):
        with self.assertRaises(BadPaper):
            check_heights(rooms(), self.paper(), ["jump"])
        low = {("a",): 5, ("b",): 3, ("c",): 1, ("d",): 0}
        with self.assertRaises(BadPaper):
            check_heights(rooms(), low, self.PLAN)
        with self.assertRaises(BadPaper):
            check_heights(rooms(), {state: 0 for state in low}, self.PLAN)

    def test_plans_that_are_refused(self):
        for plan, error in ((("ab",), BadPlan), (("bc",), BadDeed), (("no",), NoSuch), (("ab", "ab"), BadDeed)):
            with self.assertRaises(error):
                check_heights(rooms(), self.paper(), plan)

    def test_nothing_is_changed(self):
        table, problem = self.paper(b=3), rooms()
        kept, shown = dict(table), problem.shown()
        with self.assertRaises(BadPaper):
            check_heights(problem, table, self.PLAN)
        self.assertEqual(table, kept)
        self.assertEqual(problem.shown(), shown)

    def test_words_that_are_no_facts(self):
        problem = Problem([], [plain("add", [], ["g"], [])], ["g"])
        with self.assertRaises(BadFact):
            check_heights(problem, {(): 1, ("g",): 0, ("A",): None}, ["add"])

    def test_the_true_costs_are_a_right_paper_and_others_are_not(self):
        for seed in SEEDS:
            problem = rand_problem(seed)
            costs = true_costs(problem)
            if costs[problem.start] is None:
                continue
            cost, plan = cheapest(problem)
            self.assertEqual(check_heights(problem, costs, plan), cost, seed)
            for state in costs:
                more = {**costs, state: 1 if costs[state] is None else costs[state] + 1}
                if self.is_paper(problem, more, cost):
                    self.assertEqual(check_heights(problem, more, plan), cost, seed)
                else:
                    with self.assertRaises(BadPaper):
                        check_heights(problem, more, plan)

    def is_paper(self, problem, heights, cost):
        """Tell whether heights show that a cost is the least, worked out one state after another."""
        for state, rows in edges(problem).items():
            here = heights[state]
            if meets(problem, state) and here != 0:
                return False
            for deed, after in rows:
                if heights[after] is not None and (here is None or here - deed.cost > heights[after]):
                    return False
        return heights[problem.start] == cost


class NonePaperTest(unittest.TestCase):
    def problem(self):
        return walk([("ab", "a", "b", 1), ("bc", "b", "c", 1), ("zg", "z", "g", 1)], "a", "g")

    def test_a_right_paper(self):
        self.assertEqual(check_none(self.problem(), [("a",), ("b",), ("c",)]), 3)
        self.assertEqual(check_none(self.problem(), (("c",), ("b",), ("a",), ("y",))), 4)
        self.assertEqual(check_none(self.problem(), [["a"], ["b"], ["c"]]), 3)
        self.assertEqual(check_none(Problem([], [], ["g"]), [()]), 1)
        self.assertEqual(check_none(self.problem(), [("a",), ("b",), ("a",), ("c",)]), 3)

    def test_barred_facts_of_the_goal(self):
        problem = Problem(["a"], [plain("add", [], ["g"], [])], ["g"], ["a"])
        self.assertEqual(check_none(problem, [("a",), ("a", "g")]), 2)

    def test_refused(self):
        for states in ([], [("b",), ("c",)], [("a",), ("b",)], [("a",), ("c",)], [("a",), ("b",), ("c",), ("g",)],
                       [("a",), ("b",), ("c",), ("z",)], [("a",), ("b",), ("c",), ("a", "g")]):
            kept = list(states)
            with self.assertRaises(BadPaper):
                check_none(self.problem(), states)
            self.assertEqual(states, kept)

    def test_words_that_are_no_facts(self):
        problem = Problem([], [plain("add", [], ["x"], [])], ["g"])
        with self.assertRaises(BadFact):
            check_none(problem, [(), ("x",), ("A",)])

    def test_many_problems(self):
        for seed in SEEDS:
            problem = rand_problem(seed)
            costs = true_costs(problem)
            if costs[problem.start] is None:
                self.assertEqual(check_none(problem, list(costs)), len(costs), seed)
                for state in costs:
                    with self.assertRaises(BadPaper):
                        check_none(problem, [one for one in costs if one != state])
            else:
                with self.assertRaises(BadPaper):
                    check_none(problem, list(costs))


class BackwardTest(unittest.TestCase):
    def test_the_cheapest_plan(self):
        self.assertEqual(backward(rooms()), (6, ("ab", "bc", "cd")))
        self.assertEqual(backward(lamp()), (2, ("go", "light")))
        self.assertIs(type(backward(lamp())), tuple)
        self.assertIs(type(backward(lamp())[1]), tuple)

    def test_a_goal_at_the_start(self):
        self.assertEqual(backward(walk([("ba", "b", "a", 0)], "a", "a")), (0, ()))
        self.assertEqual(backward(Problem(["a"], [], [], ["b"])), (0, ()))

    def test_barred_facts_of_the_goal(self):
        deeds = [plain("out", ["a"], [], ["a"], 3), plain("add", [], ["g"], [])]
        found = backward(Problem(["a"], deeds, ["g"], ["a"]))
        self.assertEqual(found[0], 4)
        self.assertEqual(sorted(found[1]), ["add", "out"])
        self.assertEqual(backward(Problem(["a"], deeds, [], ["a"])), (3, ("out",)))

    def test_no_plan(self):
        for problem in (walk([("ab", "a", "b", 1)], "a", "c"), walk([("ba", "b", "a", 1)], "a", "b"), Problem([], [], ["g"])):
            with self.assertRaises(NoPlan):
                backward(problem)

    def test_a_cheaper_way_found_later(self):
        problem = walk([("ag", "a", "g", 9), ("bg", "b", "g", 1), ("ab", "a", "b", 2)], "a", "g")
        self.assertEqual(backward(problem), (3, ("ab", "bg")))

    def test_a_row_that_came_dear_is_left_behind_where_it_came_anew(self):
        # x is wanted at 3, then at 2; the dear one is still there when it is gone on from.
        problem = walk([("xg", "x", "g", 3), ("mg", "m", "g", 1), ("xm", "x", "m", 1), ("sx", "s", "x", 9)], "s", "g")
        self.assertEqual(backward(problem), (11, ("sx", "xm", "mg")))

    def test_rows_come_anew_as_in_the_forward_search(self):
        turned = walk([(name, other, one, cost) for name, one, other, cost in (
            ("sx", "s", "x", 5), ("sm", "s", "m", 1), ("sy", "s", "y", 2), ("mx", "m", "x", 1), ("xg", "x", "g", 1),
            ("yg", "y", "g", 1))], "g", "s")
        self.assertEqual(backward(turned), (3, ("yg", "sy")))

    def test_most(self):
        # From s4 back, each row wants one place, and none further back.
        problem = chain(5)
        self.assertEqual(backward(problem, 5), (4, ("d0", "d1", "d2", "d3")))
        with self.assertRaises(BadSize):
            backward(problem, 4)
        with self.assertRaises(NoPlan):
            backward(walk([("ab", "a", "b", 1), ("bc", "b", "c", 1)], "z", "c"), 3)
        with self.assertRaises(BadSize):
            backward(walk([("ab", "a", "b", 1), ("bc", "b", "c", 1)], "z", "c"), most=2)
        for sizes, error in ((MANY, NoPlan), (MORE, BadSize)):
            problem = wheels(sizes)
            with self.assertRaises(error):
                backward(Problem([], list(problem.deeds.values()), problem.start))

    def test_most_counts_rows_once(self):
        problem = walk([("cb", "c", "b", 5), ("db", "d", "b", 1), ("cd", "c", "d", 1), ("bc", "b", "c", 1)], "z", "b")
        with self.assertRaises(NoPlan):
            backward(problem, 3)
        with self.assertRaises(BadSize):
            backward(problem, 2)

    def test_many_problems(self):
        for seed in SEEDS:
            problem = rand_problem(seed)
            cost = true_costs(problem)[problem.start]
            if cost is None:
                with self.assertRaises(NoPlan):
                    backward(problem)
            else:
                found = backward(problem)
                self.assertEqual(found[0], cost, seed)
                self.assertEqual(problem.check(found[1]), cost, seed)

    def test_how_many_rows_of_many_problems(self):
        for seed in SEEDS:
            problem = rand_problem(seed)
            if true_costs(problem)[problem.start] is not None:
                continue
            left, rows = [(problem.goal, problem.bars)], set()
            while left:
                row = left.pop()
                if row not in rows:
                    rows.add(row)
                    ahead = [back_from(row[0], row[1], deed) for deed in problem.deeds.values()]
                    left.extend(one for one in ahead if one is not None)
            with self.assertRaises(NoPlan):
                backward(problem, len(rows))
            if len(rows) > 1:
                with self.assertRaises(BadSize):
                    backward(problem, len(rows) - 1)


class EagerTest(unittest.TestCase):
    def test_by_heights_alone(self):
        self.assertEqual(eager(rooms(), by_table({"a": 9, "b": 1, "c": 0, "d": 2})), ("jump",))
        self.assertEqual(eager(rooms(), by_table({})), ("jump",))
        long = walk([("ag", "a", "g", 1), ("ab", "a", "b", 50), ("bh", "b", "h", 50)], "a", "h")
        self.assertEqual(eager(long, by_table({"g": 5})), ("ab", "bh"))
        self.assertIs(type(eager(rooms(), by_table({}))), tuple)

    def test_a_lower_one_that_came_later_is_taken_first(self):
        rows = [("a%d" % k, "a", "b%d" % k, 1) for k in range(5)] + [("g%d" % k, "b%d" % k, "g", 1) for k in range(5)]
        for place in range(5):
            table = {"b%d" % k: 5 for k in range(5)} | {"b%d" % place: 4, "g": 9}
            self.assertEqual(eager(walk(rows, "a", "g"), by_table(table)), ("a%d" % place, "g%d" % place))

    def test_costs_do_not_count(self):
        problem = walk([("ax", "a", "x", 90), ("ay", "a", "y", 0), ("xg", "x", "g", 0), ("yg", "y", "g", 0)], "a", "g")
        self.assertEqual(eager(problem, by_table({"x": 1, "y": 2, "g": 3})), ("ax", "xg"))
        self.assertEqual(eager(problem, by_table({"x": 2, "y": 1, "g": 3})), ("ay", "yg"))

    def test_first_come_first(self):
        problem = walk([("ax", "a", "x", 9), ("ay", "a", "y", 0), ("yg", "y", "g", 0), ("xg", "x", "g", 9)], "a", "g")
        self.assertEqual(eager(problem, by_table({})), ("ax", "xg"))
        wide = walk(
            [("ab", "a", "b", 1), ("ac", "a", "c", 1), ("bd", "b", "d", 1), ("cg", "c", "g", 1), ("dh", "d", "h", 1)],
            "a", "h",
        )
        self.assertEqual(eager(wide, by_table({"h": 0})), ("ab", "bd", "dh"))

    def test_a_state_comes_once(self):
        problem = walk([("ax", "a", "x", 9), ("ay", "a", "y", 1), ("yx", "y", "x", 1), ("xg", "x", "g", 1)], "a", "g")
        self.assertEqual(eager(problem, by_table({"x": 5, "y": 1})), ("ax", "xg"))

    def test_a_goal_is_told_when_it_is_taken(self):
        deeds = [plain("one", ["a"], ["g"], []), plain("two", ["a"], ["b", "g"], [])]
        problem = Problem(["a"], deeds, ["g"])
        self.assertEqual(eager(problem, lambda state: -len(state)), ("two",))
        self.assertEqual(eager(problem, len), ("one",))

    def test_a_goal_at_the_start(self):
        self.assertEqual(eager(walk([("ab", "a", "b", 1)], "a", "a"), lambda state: 5), ())

    def test_heights_of_none(self):
        self.assertEqual(eager(rooms(), by_table({"b": None, "d": 9})), ("jump",))
        for table in ({"a": None}, {"d": None}):
            with self.assertRaises(NoPlan):
                eager(rooms(), by_table(table))

    def test_no_plan(self):
        with self.assertRaises(NoPlan):
            eager(walk([("ab", "a", "b", 1)], "a", "c"), by_table({}))

    def test_most(self):
        self.assertEqual(eager(chain(5), len, 5), ("d0", "d1", "d2", "d3"))
        with self.assertRaises(BadSize):
            eager(chain(5), len, 4)
        with self.assertRaises(NoPlan):
            eager(walk([("ab", "a", "b", 1), ("ba", "b", "a", 1)], "a", "c"), len, most=2)
        with self.assertRaises(BadSize):
            eager(walk([("ab", "a", "b", 1), ("ba", "b", "a", 1)], "a", "c"), len, most=1)
        with self.assertRaises(BadSize):
            eager(rooms(), by_table({"b": None}), 2)
        with self.assertRaises(NoPlan):
            eager(wheels(MANY, ["none"]), len)
        with self.assertRaises(BadSize):
            eager(wheels(MORE, ["none"]), len)

    def test_many_problems(self):
        for seed in SEEDS:
            problem = rand_problem(seed)
            costs = true_costs(problem)
            for height in (costs.get, len, lambda state: 0):
                if costs[problem.start] is None:
                    with self.assertRaises(NoPlan):
                        eager(problem, height)
                else:
                    problem.check(eager(problem, height))


class AllPlansTest(unittest.TestCase):
    def test_shorter_ones_first_then_as_deeds_were_told(self):
        problem = walk(
            [("ag", "a", "g", 1), ("ab", "a", "b", 1), ("ba", "b", "a", 1), ("bg", "b", "g", 1), ("gb", "g", "b", 1)], "a", "g",
        )
        found = all_plans(problem, 3)
        self.assertEqual(found, (("ag",), ("ab", "bg"), ("ab", "ba", "ag")))
        self.assertIs(type(found), tuple)
        self.assertTrue(all(type(plan) is tuple for plan in found))
        self.assertEqual(all_plans(problem, 1), (("ag",),))
        self.assertEqual(all_plans(problem, 0), ())

    def test_none_goes_on_behind_a_goal(self):
        self.assertEqual(all_plans(walk([("aa", "a", "a", 1)], "a", "a"), 8), ((),))

    def test_no_plans(self):
        self.assertEqual(all_plans(walk([("ab", "a", "b", 1)], "a", "c"), 5), ())
        self.assertEqual(all_plans(Problem([], [], ["g"]), 8), ())

    def test_counts(self):
        for count in (0, 8):
            all_plans(lamp(), count)
        for count in (-1, 9, -9, 100):
            with self.assertRaises(BadSize):
                all_plans(lamp(), count)
        self.assertEqual(all_plans(chain(9), 8), (tuple("d%d" % k for k in range(8)),))
        self.assertEqual(all_plans(chain(10), 8), ())

    def test_many_problems(self):
        for seed in range(60):
            problem = rand_problem(seed, deeds=5)
            rows, found = [((), problem.start)], []
            for _ in range(5):
                found.extend(plan for plan, state in rows if meets(problem, state))
                rows = [
                    (plan + (name,), after) for plan, state in rows if not meets(problem, state)
                    for name, deed in problem.deeds.items() for after in [behind(state, deed)] if after is not None
                ]
            self.assertEqual(all_plans(problem, 4), tuple(found), seed)


if __name__ == "__main__":
    unittest.main()
