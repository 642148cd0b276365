"""The interface as it is written: where each name is defined, what it takes, and what each object has."""

import importlib
import inspect
import unittest

from planwright.deeds import Deed
from planwright.problems import Problem

FUNCTIONS = {
    "planwright.deeds": {
        "check_fact": "(fact)",
        "facts": "(words)",
        "plain": "(name, needs, adds, drops, cost=1)",
        "is_idle": "(deed)",
        "in_turn": "(one, other, name)",
        "hurts": "(one, other)",
        "clash": "(one, other)",
        "helps": "(one, other)",
        "may_swap": "(one, other)",
        "are_free": "(one, other)",
        "back_from": "(goal, bars, deed)",
    },
    "planwright.problems": {
        "reached": "(problem, most=2000)",
        "way_to": "(table, state)",
        "without": "(problem, names)",
        "with_goal": "(problem, goal, bars=())",
        "from_state": "(problem, start)",
        "shorter": "(problem, plan)",
        "comes": "(problem, plan)",
        "useless": "(problem, most=2000)",
        "dead_ends": "(problem, most=2000)",
    },
}
CLASSES = {
    "planwright.errors": {
        name: {} for name in (
            "PlanFault", "BadFact", "BadDeed", "BadPlan", "BadPaper", "BadSize", "BadText", "BadStore", "NoPlan", "NoSuch",
        )
    },
    "planwright.deeds": {
        "Deed": {
            "__init__": "(self, name, needs, bars, adds, drops, cost=1)",
            "fits": "(self, state)",
            "done": "(self, state)",
            "shown": "(self)",
        },
    },
    "planwright.problems": {
        "Problem": {
            "__init__": "(self, start, deeds, goal, bars=())",
            "deed": "(self, name)",
            "is_goal": "(self, state)",
            "choices": "(self, state)",
            "states_of": "(self, plan)",
            "cost_of": "(self, plan)",
            "check": "(self, plan)",
            "all_facts": "(self)",
            "shown": "(self)",
        },
    },
}


class InterfaceTest(unittest.TestCase):
    def test_functions_stand_in_their_files(self):
        for file, rows in FUNCTIONS.items():
            for name, told in rows.items():
                function = getattr(importlib.import_module(file), name)
                self.assertTrue(inspect.isfunction(function), name)
                self.assertEqual(function.__module__, file, name)
                self.assertEqual(str(inspect.signature(function)), told, name)

    def test_classes_stand_in_their_files_with_their_methods(self):
        for file, rows in CLASSES.items():
            for name, methods in rows.items():
                kind = getattr(importlib.import_module(file), name)
                self.assertTrue(inspect.isclass(kind), name)
                self.assertEqual(kind.__module__, file, name)
                for method, told in methods.items():
                    self.assertIn(method, vars(kind), name)
                    self.assertEqual(str(inspect.signature(vars(kind)[method])), told, (name, method))

    def test_fields_are_set_when_an_object_is_created(self):
        self.assertEqual(set(vars(Deed("x", [], [], [], []))), {"name", "needs", "bars", "adds", "drops", "cost"})
        self.assertEqual(set(vars(Problem([], [], []))), {"start", "deeds", "goal", "bars"})

    def test_arguments_may_be_told_by_name(self):
        deed = Deed(name="x", needs=["n"], bars=["b"], adds=["a"], drops=["d"], cost=3)
        self.assertEqual(deed.shown(), ("x", ("n",), ("b",), ("a",), ("d",), 3))
        problem = Problem(start=["n"], deeds=[deed], goal=["a"], bars=["b"])
        self.assertEqual(problem.shown(), (("n",), (deed.shown(),), ("a",), ("b",)))


if __name__ == "__main__":
    unittest.main()
