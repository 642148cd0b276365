"""Trees: tasks parted by methods, all trees so deep, cheapest ones, checks of trees, and what is refused."""

import random
import unittest
from itertools import product

from planwright.deeds import Deed, plain
from planwright.errors import BadDeed, BadPaper, BadPlan, BadSize, NoSuch
from planwright.problems import Problem, comes
from planwright.searches import all_plans, cheapest
from planwright.trees import (
    Methods, depth_of_tree, free_methods, goal_tree, name_of, plan_of_tree, plans_of, told_tree,
)
from samples import behind, chain, kinds, lamp, meets, rand_problem, walk

SEEDS = range(50)


def trip():
    """Return a problem of a way to town, by foot, by bus or by taxi."""
    return Problem(["home", "coin"], [
        Deed("walk", ["home"], ["rain"], ["town"], ["home"], 9),
        Deed("ride", ["stop", "coin"], [], ["town"], ["stop", "coin"], 2),
        Deed("go", ["home"], [], ["stop"], ["home"], 1),
        Deed("taxi", ["home"], [], ["town"], ["home"], 20),
        Deed("earn", [], [], ["coin"], [], 3),
        Deed("shop", ["town"], [], ["milk"], [], 0),
    ], ["milk"])


ROWS = (
    ("travel", ["home"], ["walk"]), ("travel", ["coin"], ["go", "ride"]), ("fetch", (), ("travel", "shop")),
    ("travel", [], ("taxi",)), ("stay", ["town"], []), ("fetch", ["town"], ["stay", "shop", "stay"]),
)


def methods():
    """Return methods for the way to town."""
    return Methods(trip(), ROWS)


def rand_methods(seed):
    """Return methods over one of many small problems, the same for the same seed."""
    rand = random.Random(seed)
    problem = rand_problem(seed, 4, 4)
    names = list(problem.deeds) + ["t0", "t1", "t2"]
    rows = [("t%d" % k, [], [rand.choice(list(problem.deeds))]) for k in range(3)]
    for _ in range(rand.randint(1, 4)):
        needs = rand.sample(problem.all_facts(), rand.choice([0, 0, 1]))
        rows.append((rand.choice(names[-3:]), needs, [rand.choice(names) for _ in range(rand.randint(0, 3))]))
    rand.shuffle(rows)
    return Methods(problem, rows)


def trees_told(asked, task, state, depth):
    """Return all (tree, state behind) of a task or deed, worked out part by part."""
    problem = asked.problem
    if task in problem.deeds:
        after = behind(state, problem.deeds[task])
        return [] if after is None else [(task, after)]
    found = []
    for place, (name, needs, parts) in enumerate(asked.rows):
        if name == task and depth > 0 and set(needs) <= set(state):
            found.extend(((task, place, row), after) for row, after in parts_told(asked, parts, state, depth - 1))
    return found


def parts_told(asked, parts, state, depth):
    """Return all (trees, state behind) of parts in turn."""
    if not parts:
        return [((), state)]
    return [
        ((tree,) + row, after)
        for tree, here in trees_told(asked, parts[0], state, depth)
        for row, after in parts_told(asked, parts[1:], here, depth)
    ]


class MethodsTest(unittest.TestCase):
    def test_fields(self):
        problem = trip()
        asked = Methods(problem, ROWS)
        self.assertIs(asked.problem, problem)
        self.assertEqual(asked.rows, (
            ("travel", ("home",), ("walk",)), ("travel", ("coin",), ("go", "ride")), ("fetch", (), ("travel", "shop")),
            ("travel", (), ("taxi",)), ("stay", ("town",), ()), ("fetch", ("town",), ("stay", "shop", "stay")),
        ))
        self.assertEqual(asked.shown(), asked.rows)
        self.assertEqual(kinds(asked.shown()[:3]), kinds((("t", ("h",), ("w",)), ("t", ("c",), ("g", "r")), ("f", (), ("t", "s")))))
        self.assertEqual(Methods(problem, []).rows, ())

    def test_what_was_handed_in_is_kept_apart(self):
        rows = [["t", ["home"], ["walk"]]]
        asked = Methods(trip(), rows)
        rows[0][2].append("no")
        rows.append(("walk", [], []))
        self.assertEqual(asked.rows, (("t", ("home",), ("walk",)),))

    def test_refused(self):
        for rows in ([("walk", [], [])], [("t", [], ["walk"]), ("shop", [], ["t"])]):
            with self.assertRaises(BadDeed):
                Methods(trip(), rows)
        for rows in ([("t", [], ["no"])], [("t", [], ["walk", "u"])], [("t", [], [""])], [("t", [], []), ("u", [], ["t", "s"])]):
            with self.assertRaises(NoSuch):
                Methods(trip(), rows)
        # A task may have itself for a part, and one that is told further on.
        self.assertEqual(Methods(trip(), [("t", [], ["t", "u"]), ("u", [], [])]).of("u"), [1])

    def test_of(self):
        asked = methods()
        self.assertEqual([asked.of(task) for task in ("travel", "fetch", "stay", "walk", "no")], [[0, 1, 3], [2, 5], [4], [], []])
        self.assertEqual(type(asked.of("no")), list)

    def test_tree(self):
        asked = methods()
        state = ("coin", "home")
        self.assertEqual(asked.tree("travel", state, 1), (("travel", 0, ("walk",)), ("coin", "town")))
        self.assertEqual(asked.tree("travel", ["home", "rain"], 1), (("travel", 3, ("taxi",)), ("rain", "town")))
        self.assertEqual(asked.tree("fetch", state, 2), (
            ("fetch", 2, (("travel", 0, ("walk",)), "shop")), ("coin", "milk", "town"),
        ))
        self.assertEqual(kinds(asked.tree("fetch", list(state), 2)), kinds((
            ("fetch", 2, (("travel", 0, ("walk",)), "shop")), ("coin", "milk", "town"),
        )))
        self.assertIsNone(asked.tree("fetch", state, 1))
        self.assertIsNone(asked.tree("travel", ("coin",), 5))
        self.assertIsNone(asked.tree("stay", state, 5))

    def test_a_deeds_tree(self):
        asked = methods()
        for depth in (0, 3):
            self.assertEqual(asked.tree("walk", ["home", "coin"], depth), ("walk", ("coin", "town")))
            self.assertIsNone(asked.tree("walk", ("town",), depth))
            self.assertEqual(asked.trees("walk", ("town",), depth), [])
        self.assertEqual(asked.best("taxi", ["home"], 0), (20, "taxi"))
        self.assertIsNone(asked.best("taxi", ("town",), 0))

    def test_a_method_without_parts(self):
        asked = methods()
        self.assertEqual(asked.tree("stay", ("milk", "town"), 1), (("stay", 4, ()), ("milk", "town")))
        self.assertEqual(asked.tree("stay", ["milk", "town"], 1), (("stay", 4, ()), ("milk", "town")))
        self.assertIsNone(asked.tree("stay", ("town",), 0))
        self.assertEqual(asked.rows_of((), ["a", "b"], 0), [((), ("a", "b"))])
        self.assertEqual(asked.best("stay", ("town",), 1), (0, ("stay", 4, ())))
        self.assertEqual(asked.check(("stay", 4, ()), ["town"]), ("town",))

    def test_all_trees(self):
        asked = methods()
        self.assertEqual(asked.trees("travel", ("coin", "home"), 1), [
            (("travel", 0, ("walk",)), ("coin", "town")), (("travel", 1, ("go", "ride")), ("town",)),
            (("travel", 3, ("taxi",)), ("coin", "town")),
        ])
        self.assertEqual(asked.trees("fetch", ["home", "rain"], 2), [
            (("fetch", 2, (("travel", 3, ("taxi",)), "shop")), ("milk", "rain", "town")),
        ])
        for depth in (0, -1):
            self.assertEqual(asked.trees("travel", ("coin", "home"), depth), [])
        self.assertEqual(type(asked.trees("stay", (), 1)), list)
        for depth in (0, 2):
            with self.assertRaises(NoSuch):
                asked.trees("no", (), depth)

    def test_rows_of(self):
        asked = methods()
        found = asked.rows_of(["travel", "shop"], ["coin", "home"], 1)
        self.assertEqual(found, [
            ((("travel", 0, ("walk",)), "shop"), ("coin", "milk", "town")),
            ((("travel", 1, ("go", "ride")), "shop"), ("milk", "town")),
            ((("travel", 3, ("taxi",)), "shop"), ("coin", "milk", "town")),
        ])
        self.assertEqual(type(found), list)
        self.assertEqual(asked.rows_of(("shop", "travel"), ("home",), 5), [])
        with self.assertRaises(NoSuch):
            asked.rows_of(("walk", "no"), ("home",), 5)

    def test_many(self):
        deep = 0
        for seed in SEEDS:
            asked = rand_methods(seed)
            state = asked.problem.start
            for task in ("t0", "t1", "t2"):
                for depth in range(4):
                    told = trees_told(asked, task, state, depth)
                    found = asked.trees(task, state, depth)
                    self.assertEqual(found, told, (seed, task, depth))
                    self.assertEqual(asked.tree(task, state, depth), told[0] if told else None)
                    self.check_trees(asked, state, found, depth)
                    costs = [sum(asked.problem.deeds[name].cost for name in plan_of_tree(tree)) for tree, _ in told]
                    best = (min(costs), told[costs.index(min(costs))][0]) if told else None
                    self.assertEqual(asked.best(task, state, depth), best)
                    self.assertEqual(plans_of(asked, task, state, depth), tuple(sorted({plan_of_tree(tree) for tree, _ in told})))
                    good = [tree for tree, after in told if meets(asked.problem, after)]
                    if good:
                        self.assertEqual(goal_tree(asked, task, depth), good[0])
                        self.assertTrue(comes(asked.problem, plan_of_tree(good[0])))
                    else:
                        with self.assertRaises(BadPlan):
                            goal_tree(asked, task, depth)
                    deep += len(told)
        self.assertGreater(deep, 300)

    def check_trees(self, asked, state, found, depth):
        """Check that each tree leads where it is told to lead, and isn't too deep."""
        for tree, after in found[:40]:
            here = state
            for name in plan_of_tree(tree):
                here = behind(here, asked.problem.deeds[name])
            self.assertEqual(here, after)
            self.assertEqual(asked.check(tree, state), after)
            self.assertLessEqual(depth_of_tree(tree), depth)

    def test_asked_wrongly(self):
        asked = methods()
        for depth in (-1, -9):
            for call in (asked.tree, asked.best, lambda *told: plans_of(asked, *told), lambda task, _, depth: goal_tree(asked, task, depth)):
                for task in ("travel", "walk", "no"):
                    with self.assertRaises(BadSize):
                        call(task, ("home",), depth)
        for call in (asked.tree, asked.best, lambda *told: plans_of(asked, *told), lambda task, _, depth: goal_tree(asked, task, depth)):
            for task in ("no", ""):
                for depth in (0, 2):
                    with self.assertRaises(NoSuch):
                        call(task, ("home",), depth)
        self.assertEqual(asked.shown(), methods().shown())

    def test_best(self):
        asked = methods()
        self.assertEqual(asked.best("fetch", ("coin", "home"), 2), (3, ("fetch", 2, (("travel", 1, ("go", "ride")), "shop"))))
        self.assertEqual(asked.best("fetch", ["home"], 2), (9, ("fetch", 2, (("travel", 0, ("walk",)), "shop"))))
        self.assertEqual(kinds(asked.best("travel", ["home"], 1)), kinds((9, ("travel", 0, ("walk",)))))
        self.assertIsNone(asked.best("fetch", ("home",), 1))
        # Of those that cost as much the first one stands.
        other = Methods(trip(), [("t", [], ["go"]), ("t", [], ["go"]), ("t", [], ["taxi"])])
        self.assertEqual(other.best("t", ("home",), 1), (1, ("t", 0, ("go",))))


class CheckTest(unittest.TestCase):
    def test_check(self):
        asked = methods()
        tree = ("fetch", 2, (("travel", 1, ("go", "ride")), "shop"))
        self.assertEqual(asked.check(tree, ["coin", "home"]), ("milk", "town"))
        self.assertEqual(asked.check(["fetch", 2, [["travel", 1, ["go", "ride"]], "shop"]], ("coin", "home")), ("milk", "town"))
        self.assertEqual(asked.check("walk", ["home"]), ("town",))
        self.assertEqual(kinds(asked.check(tree, ["coin", "home"])), kinds(("milk", "town")))

    def test_no_method(self):
        asked = methods()
        for tree in (
            ("fetch", 6, ()), ("fetch", -1, ("stay", "shop", "stay")), ("fetch", 0, ("walk",)), ("travel", 2, ("walk",)),
            ("no", 0, ("walk",)), ("walk", 0, ()), ("travel", 99, ()),
        ):
            with self.assertRaises(BadPaper):
                asked.check(tree, ("coin", "home", "town"))

    def test_another_method(self):
        asked = methods()
        for tree in (
            ("travel", 0, ("taxi",)), ("travel", 0, ()), ("travel", 0, ("walk", "walk")), ("travel", 1, ("ride", "go")),
            ("fetch", 2, ("shop", ("travel", 0, ("walk",)))), ("fetch", 2, (("stay", 4, ()), "shop")),
            ("stay", 4, ()), ("fetch", 5, (("stay", 4, ()), "shop", ("stay", 4, ()))),
            ("fetch", 2, ("travel", "shop", "shop")),
        ):
            with self.assertRaises(BadPaper):
                asked.check(tree, ("coin", "home"))

    def test_needs_are_asked_ahead_of_the_parts(self):
        asked = Methods(trip(), [("t", ["town"], ["walk"]), ("u", ["home"], ["walk"])])
        with self.assertRaises(BadPaper):
            asked.check(("t", 0, ("walk",)), ("home",))
        self.assertEqual(asked.check(("u", 1, ("walk",)), ("home",)), ("town",))
        self.assertIsNone(asked.tree("t", ("home",), 1))

    def test_deeds_that_cant_be_done(self):
        asked = methods()
        with self.assertRaises(BadDeed):
            asked.check("walk", ("home", "rain"))
        with self.assertRaises(BadDeed):
            asked.check(("travel", 1, ("go", "ride")), ("coin", "town"))
        for tree in ("no", "travel", ""):
            with self.assertRaises(NoSuch):
                asked.check(tree, ("home",))
        with self.assertRaises(NoSuch):
            asked.check(("fetch", 2, ("travel", "shop")), ("home",))


class TreeTest(unittest.TestCase):
    TREE = ("a", 3, ("b", ("c", 0, ()), ("d", 1, ("e", ("f", 2, ("g",))))))

    def test_name_of(self):
        self.assertEqual([name_of("walk"), name_of(self.TREE), name_of(["t", 0, []])], ["walk", "a", "t"])

    def test_plan_of_tree(self):
        self.assertEqual(plan_of_tree(self.TREE), ("b", "e", "g"))
        self.assertEqual([plan_of_tree("walk"), plan_of_tree(("c", 0, ()))], [("walk",), ()])
        self.assertEqual(plan_of_tree(["a", 0, ["x", "y"]]), ("x", "y"))
        self.assertEqual(type(plan_of_tree(self.TREE)), tuple)

    def test_depth_of_tree(self):
        self.assertEqual([depth_of_tree(tree) for tree in ("walk", ("c", 0, ()), ("c", 0, ("x",)), self.TREE)], [0, 1, 1, 3])

    def test_told_tree(self):
        self.assertEqual(told_tree("walk"), "walk")
        self.assertEqual(told_tree(("c", 0, ())), "c[]")
        self.assertEqual(told_tree(("c", 0, ("x", "y"))), "c[x y]")
        self.assertEqual(told_tree(self.TREE), "a[b c[] d[e f[g]]]")

    def test_plans_of(self):
        asked = methods()
        self.assertEqual(plans_of(asked, "travel", ("coin", "home"), 1), (("go", "ride"), ("taxi",), ("walk",)))
        self.assertEqual(plans_of(asked, "walk", ("home",), 0), (("walk",),))
        self.assertEqual(plans_of(asked, "travel", ("home",), 0), ())
        self.assertEqual(kinds(plans_of(asked, "travel", ["home"], 1)), kinds((("taxi",), ("walk",))))
        other = Methods(trip(), [("t", [], ["go"]), ("t", [], ["earn"]), ("t", [], ["go"])])
        self.assertEqual(plans_of(other, "t", ("home",), 1), (("earn",), ("go",)))

    def test_goal_tree(self):
        asked = methods()
        self.assertEqual(goal_tree(asked, "fetch", 2), ("fetch", 2, (("travel", 0, ("walk",)), "shop")))
        for task, depth in (("fetch", 1), ("fetch", 0), ("travel", 3), ("walk", 3)):
            with self.assertRaises(BadPlan):
                goal_tree(asked, task, depth)
        barred = Problem(["home"], list(trip().deeds.values()), ["town"], ["coin"])
        rows = [("t", [], ["earn", "walk"]), ("t", [], ["walk"])]
        self.assertEqual(goal_tree(Methods(barred, rows), "t", 1), ("t", 1, ("walk",)))
        self.assertEqual(goal_tree(Methods(barred, rows), "walk", 0), "walk")

    def test_free_methods(self):
        asked = free_methods(chain(3))
        self.assertIsInstance(asked, Methods)
        for problem in (trip(), lamp()):
            with self.assertRaises(BadDeed):
                free_methods(problem)
        problem = Problem(["a"], [plain("x", ["a"], ["b"], ["a"]), plain("y", ["b"], ["c"], [])], ["c", "b"])
        self.assertEqual(free_methods(problem).shown(), (
            ("go", ("b", "c"), ()), ("go", (), ("x", "go")), ("go", (), ("y", "go")),
        ))

    def test_a_deed_called_go_in_free_methods(self):
        with self.assertRaises(BadDeed):
            free_methods(walk([("go", "a", "b", 1)], "a", "b"))

    def test_free_methods_come_to_what_plans_come_to(self):
        same = 0
        for seed in range(20):
            problem = rand_problem(seed, 4, 4)
            asked = free_methods(problem)
            plans = [plan for plan in all_plans(problem, 3)]
            if not plans:
                with self.assertRaises(BadPlan):
                    goal_tree(asked, "go", 4)
                continue
            same += 1
            self.assertTrue(comes(problem, plan_of_tree(goal_tree(asked, "go", 4))))
            self.assertEqual(depth_of_tree(goal_tree(asked, "go", len(plans[0]) + 1)), len(plans[0]) + 1)
            told = plans_of(asked, "go", problem.start, 4)
            if not problem.bars:
                self.assertTrue(set(plans) <= set(told))
                self.assertTrue(all(comes(problem, plan) for plan in told))
                best = asked.best("go", problem.start, 4)
                self.assertEqual(best[0], min(sum(problem.deeds[name].cost for name in plan) for plan in told))
                self.assertGreaterEqual(best[0], cheapest(problem)[0])
        self.assertGreater(same, 5)

    def test_names_may_be_told_as_any_words(self):
        for first, second in product(("T", "go home", "x(1)"), repeat=2):
            asked = Methods(trip(), [(first, [], ["walk"]), (second + "!", [], [first])])
            self.assertEqual(asked.tree(second + "!", ("home",), 2), ((second + "!", 1, ((first, 0, ("walk",)),)), ("town",)))


if __name__ == "__main__":
    unittest.main()
