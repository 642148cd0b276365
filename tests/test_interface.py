"""The interface as it is written: where each name is defined, what it takes, and what each object has."""

import importlib
import inspect
import unittest

from planwright.chances import Chancy
from planwright.deeds import Deed
from planwright.desks import BASE, PARTS, WIDE, Desk
from planwright.layers import Layers
from planwright.marks import Priced, PricedDeed
from planwright.nets import Net
from planwright.orders import Order
from planwright.problems import Problem
from planwright.schemas import LETTERS, MARKS, Schema
from planwright.tables import Table
from planwright.trees import Methods

FUNCTIONS = {
    "planwright.deeds": {
        "check_fact": "(fact)",
        "facts": "(words)",
        "plain": "(name, needs, adds, drops, cost=1)",
        "is_idle": "(deed)",
        "in_turn": "(one, other, name)",
        "hurts": "(one, other)",
        "clash": "(one, other)",
        "helps": "(one, other)",
        "may_swap": "(one, other)",
        "are_free": "(one, other)",
        "back_from": "(goal, bars, deed)",
    },
    "planwright.problems": {
        "reached": "(problem, most=2000)",
        "way_to": "(table, state)",
        "without": "(problem, names)",
        "with_goal": "(problem, goal, bars=())",
        "from_state": "(problem, start)",
        "shorter": "(problem, plan)",
        "comes": "(problem, plan)",
        "useless": "(problem, most=2000)",
        "dead_ends": "(problem, most=2000)",
    },
    "planwright.searches": {
        "cheapest": "(problem, most=2000, height=None)",
        "queued": "(left, cost, count, state, height)",
        "fewest": "(problem, most=2000)",
        "all_costs": "(problem, most=2000)",
        "check_heights": "(problem, heights, plan)",
        "check_none": "(problem, states)",
        "backward": "(problem, most=2000)",
        "eager": "(problem, height, most=2000)",
        "all_plans": "(problem, count)",
    },
    "planwright.relaxed": {
        "relaxed": "(problem)",
        "fact_costs": "(problem, state, summed)",
        "of_row": "(costs, row, summed)",
        "height_by_most": "(problem, state)",
        "height_by_sum": "(problem, state)",
        "relaxed_plan": "(problem, state)",
        "settlers": "(problem, state, costs)",
        "closure": "(problem, state, names)",
        "best_relaxed": "(problem, state)",
        "lots": "(names)",
        "picks": "(names, size)",
        "check_relaxed": "(problem, state, names)",
        "in_order": "(problem, state, names)",
    },
    "planwright.marks": {
        "fact_marks": "(problem, state)",
        "comes_to": "(problem, state, names)",
        "deed_marks": "(problem, state)",
        "ahead_of": "(problem, state, fact)",
        "cut_lots": "(problem, state)",
        "costs_with": "(problem, state, costs)",
        "one_cut": "(problem, state, costs, table)",
        "goal_zone": "(problem, costs, table)",
        "height_by_cuts": "(problem, state)",
        "check_cuts": "(problem, state, lots)",
        "count_marks": "(problem, state)",
    },
    "planwright.tables": {
        "cut_down": "(problem, kept, costs=None)",
        "within": "(row, names)",
        "touches": "(deed, kept)",
        "are_apart": "(problem, lots)",
        "summed": "(tables, state)",
        "greatest": "(tables, state)",
        "shared_out": "(problem, lots)",
        "tables_of": "(problem, lots, shared)",
        "is_even": "(problem, height, states)",
        "check_never_above": "(problem, height, costs)",
        "sharpest": "(problem, functions, state)",
    },
    "planwright.pairs": {
        "pair_costs": "(problem, state)",
        "row_cost": "(table, row)",
        "after_pairs": "(table, deed, base)",
        "height_by_pairs": "(problem, state)",
        "apart": "(problem)",
        "never": "(problem)",
        "check_apart": "(problem, rows, none=())",
        "makes": "(deed, pair)",
        "stopped": "(deed, pair, table, none)",
        "one_of_each": "(problem)",
        "greatest_lots": "(names, table)",
        "grow": "(lot, left, names, table, found)",
        "joins": "(lot, name, table)",
        "stays_one": "(problem, lot)",
        "values_of": "(state, lots)",
    },
    "planwright.layers": {
        "first_layer": "(problem, most=12)",
        "check_rows": "(problem, rows)",
        "side_by_side": "(problem, plan)",
        "fewest_rows": "(problem, most=6)",
        "free_lots": "(problem, deeds)",
    },
    "planwright.clauses": {
        "clauses_of": "(problem, count)",
        "one_at_most": "(names, time)",
        "stay": "(problem, fact, time, mark)",
        "marks_of": "(problem, plan)",
        "plan_of": "(marks, count)",
        "is_right": "(clauses, marks)",
        "marked": "(clauses)",
        "search": "(clauses, marks)",
        "plan_by_clauses": "(problem, most=6)",
        "letters_of": "(clauses)",
        "check_split": "(clauses, paper)",
        "ends_of": "(clauses, paper, marks)",
        "split_paper": "(clauses, marks=None)",
    },
    "planwright.orders": {
        "closed": "(count, pairs)",
        "lines": "(left, pairs)",
        "leads": "(problem, plan)",
        "loosened": "(problem, plan)",
        "loosest": "(problem, plan)",
        "checks": "(order)",
        "short_pairs": "(pairs)",
        "depth_of": "(order)",
        "longest": "(order, place, found)",
        "looseness": "(order)",
    },
    "planwright.schemas": {
        "check_word": "(word)",
        "check_row": "(row)",
        "told_fact": "(row, table)",
        "parted": "(fact)",
        "all_of": "(schema, things)",
        "made_or_none": "(schema, things)",
        "grounded": "(schemas, things, start, goal, bars=())",
        "still": "(schemas)",
        "lessened": "(problem, words)",
        "read_schema": "(text)",
        "number": "(word)",
        "told_schema": "(schema)",
        "kinds_of": "(things)",
    },
    "planwright.nets": {
        "check_ring": "(net, ring)",
        "lasting": "(order, lengths, gap=0)",
        "soonest_end": "(order, lengths, gap=0)",
        "critical": "(order, lengths, gap=0)",
        "side_lengths": "(problem, plan, table)",
        "tightened": "(net, one, other, most)",
        "as_one": "(problem, plan, lengths)",
    },
    "planwright.chances": {
        "other_end": "(deed, adds, drops)",
        "sure": "(chancy, most=500)",
        "tried_on": "(chancy, most=500)",
        "best_steps": "(chancy, alive)",
        "policy": "(table, start)",
        "check_sure": "(chancy, names, ranks)",
        "check_tried": "(chancy, names)",
        "beaten": "(chancy, most=500)",
        "outcomes": "(chancy, names, count)",
    },
    "planwright.beliefs": {
        "check_states": "(states)",
        "done_in_all": "(states, deed)",
        "known": "(states)",
        "open_facts": "(states)",
        "blind_plan": "(problem, states, most=500)",
        "check_blind": "(problem, states, plan)",
        "looked": "(states, fact)",
        "looking_plan": "(problem, states, looks, depth)",
        "plan_so_deep": "(problem, states, looks, depth)",
        "check_looking": "(problem, states, plan)",
        "run_looking": "(problem, state, plan)",
        "split_deed": "(deed, fact, adds, drops)",
        "depth_of_plan": "(plan)",
    },
    "planwright.trees": {
        "name_of": "(tree)",
        "plan_of_tree": "(tree)",
        "depth_of_tree": "(tree)",
        "told_tree": "(tree)",
        "plans_of": "(methods, task, state, depth)",
        "goal_tree": "(methods, task, depth)",
        "free_methods": "(problem)",
    },
    "planwright.likes": {
        "exchanged": "(fact, table)",
        "exchanged_state": "(state, table)",
        "exchanged_deed": "(deed, table)",
        "exchanged_problem": "(problem, table)",
        "stays": "(problem, table)",
        "tables_on": "(words)",
        "orders_of": "(row)",
        "likes_of": "(problem, words)",
        "least_like": "(state, tables)",
        "cheapest_by_likes": "(problem, tables, most=500)",
        "way_by": "(froms, key)",
        "exchanged_plan": "(plan, table)",
        "lots_of_like": "(states, tables)",
    },
    "planwright.wishes": {
        "worth_of": "(worths, state)",
        "gain_of": "(problem, worths, plan)",
        "best_gain": "(problem, worths, most=500)",
        "costs_to": "(problem, most=500)",
        "within_cost": "(problem, worths, budget, most=500)",
        "all_lots": "(problem, wanted, most=500)",
        "check_gain": "(problem, worths, plan, heights)",
        "gain_heights": "(problem, worths, most=500)",
        "with_wish": "(problem, fact)",
        "dear": "(problem, fact, most=500)",
    },
    "planwright.desks": {
        "figure_of": "(text)",
        "read_deed": "(words)",
        "told_deed": "(deed)",
        "lines_of": "(text)",
        "done_again": "(text)",
    },
}
CLASSES = {
    "planwright.errors": {
        name: {} for name in (
            "PlanFault", "BadFact", "BadDeed", "BadPlan", "BadPaper", "BadSize", "BadText", "BadStore", "NoPlan", "NoSuch",
        )
    },
    "planwright.deeds": {
        "Deed": {
            "__init__": "(self, name, needs, bars, adds, drops, cost=1)",
            "fits": "(self, state)",
            "done": "(self, state)",
            "shown": "(self)",
        },
    },
    "planwright.problems": {
        "Problem": {
            "__init__": "(self, start, deeds, goal, bars=())",
            "deed": "(self, name)",
            "is_goal": "(self, state)",
            "choices": "(self, state)",
            "states_of": "(self, plan)",
            "cost_of": "(self, plan)",
            "check": "(self, plan)",
            "all_facts": "(self)",
            "shown": "(self)",
        },
    },
    "planwright.marks": {
        "Priced": {"__init__": "(self, problem, costs)"},
        "PricedDeed": {"__init__": "(self, deed, cost)"},
    },
    "planwright.tables": {
        "Table": {
            "__init__": "(self, problem, kept, costs=None, most=500)",
            "height": "(self, state)",
        },
    },
    "planwright.layers": {
        "Layers": {
            "__init__": "(self, problem, count)",
            "add": "(self)",
            "may": "(self, deed, there, barred)",
            "go": "(self, one, other, barred)",
            "needs_of": "(self, name)",
            "adds_of": "(self, name)",
            "are_free": "(self, one, other)",
            "pairs_behind": "(self, there, names, apart)",
            "holds": "(self, place)",
            "is_level": "(self)",
            "shown": "(self)",
        },
    },
    "planwright.orders": {
        "Order": {
            "__init__": "(self, problem, plan, pairs)",
            "ways": "(self)",
            "plans": "(self)",
            "is_right": "(self)",
            "check": "(self)",
            "wants": "(self, name)",
            "ahead": "(self, place)",
            "gives": "(self, one, fact, mark, place)",
            "shown": "(self)",
        },
    },
    "planwright.schemas": {
        "Schema": {
            "__init__": "(self, name, letters, needs, bars, adds, drops, cost=1)",
            "made": "(self, things)",
            "shown": "(self)",
        },
    },
    "planwright.nets": {
        "Net": {
            "__init__": "(self, count, rows)",
            "ring": "(self)",
            "far": "(self)",
            "soonest": "(self)",
            "fits": "(self, times)",
            "slack": "(self, one, other)",
            "shown": "(self)",
        },
    },
    "planwright.chances": {
        "Chancy": {
            "__init__": "(self, problem, ends)",
            "after": "(self, state, name)",
            "choices": "(self, state)",
            "states": "(self, most=500)",
        },
    },
    "planwright.trees": {
        "Methods": {
            "__init__": "(self, problem, rows)",
            "of": "(self, task)",
            "tree": "(self, task, state, depth)",
            "trees": "(self, task, state, depth)",
            "rows_of": "(self, parts, state, depth)",
            "check": "(self, tree, state)",
            "best": "(self, task, state, depth)",
            "shown": "(self)",
        },
    },
    "planwright.desks": {
        "Desk": {
            "__init__": "(self)",
            "say": "(self, line)",
            "do": "(self, line)",
            "let": "(self, problem, words)",
            "answer": "(self, words)",
        },
    },
}


class InterfaceTest(unittest.TestCase):
    def test_functions_stand_in_their_files(self):
        for file, rows in FUNCTIONS.items():
            for name, told in rows.items():
                function = getattr(importlib.import_module(file), name)
                self.assertTrue(inspect.isfunction(function), name)
                self.assertEqual(function.__module__, file, name)
                self.assertEqual(str(inspect.signature(function)), told, name)

    def test_classes_stand_in_their_files_with_their_methods(self):
        for file, rows in CLASSES.items():
            for name, methods in rows.items():
                kind = getattr(importlib.import_module(file), name)
                self.assertTrue(inspect.isclass(kind), name)
                self.assertEqual(kind.__module__, file, name)
                for method, told in methods.items():
                    self.assertIn(method, vars(kind), name)
                    self.assertEqual(str(inspect.signature(vars(kind)[method])), told, (name, method))

    def test_fields_are_set_when_an_object_is_created(self):
        self.assertEqual(set(vars(Deed("x", [], [], [], []))), {"name", "needs", "bars", "adds", "drops", "cost"})
        self.assertEqual(set(vars(Problem([], [], []))), {"start", "deeds", "goal", "bars"})
        self.assertEqual(set(vars(Priced(Problem([], [], []), {}))), {"deeds"})
        self.assertEqual(set(vars(PricedDeed(Deed("x", [], [], [], []), 1))), {"needs", "adds", "cost"})
        self.assertEqual(set(vars(Table(Problem([], [], []), []))), {"kept", "costs"})
        self.assertEqual(
            set(vars(Layers(Problem([], [], []), 0))), {"problem", "facts", "barred", "deeds", "apart"},
        )
        self.assertEqual(set(vars(Order(Problem([], [], []), [], []))), {"problem", "plan", "pairs"})
        self.assertEqual(set(vars(Schema("x", [], [], [], [], []))), {"name", "letters", "rows", "cost"})
        self.assertEqual(set(vars(Net(1, []))), {"count", "rows"})
        self.assertEqual(set(vars(Chancy(Problem([], [], []), {}))), {"problem", "ends"})
        self.assertEqual(set(vars(Methods(Problem([], [], []), []))), {"problem", "rows"})
        self.assertEqual(set(vars(Desk())), {"problem", "state", "text", "many"})

    def test_constants(self):
        self.assertEqual(LETTERS, "abcdefghijklmnopqrstuvwxyz0123456789_-")
        self.assertEqual(MARKS, (("needs",), ("bars",), ("adds",), ("drops",)))
        self.assertEqual((BASE, WIDE, PARTS), (9973, 2000003, ("needs", "bars", "adds", "drops")))

    def test_arguments_may_be_told_by_name(self):
        deed = Deed(name="x", needs=["n"], bars=["b"], adds=["a"], drops=["d"], cost=3)
        self.assertEqual(deed.shown(), ("x", ("n",), ("b",), ("a",), ("d",), 3))
        problem = Problem(start=["n"], deeds=[deed], goal=["a"], bars=["b"])
        self.assertEqual(problem.shown(), (("n",), (deed.shown(),), ("a",), ("b",)))


if __name__ == "__main__":
    unittest.main()
