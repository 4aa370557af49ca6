"""The names and arguments that the document lists, each defined in the file under which it stands."""

import importlib
import inspect
import os
import unittest

ROOT = os.path.dirname(os.path.dirname(os.path.abspath(__file__)))

LISTED = {
    "ratios": {
        "need_fraction": "thing", "ratio": "top bottom", "plus": "one other", "less": "one other",
        "times": "one other", "over": "one other", "is_less": "one other",
    },
    "shares": {
        "need_share": "thing", "total": "share", "moment": "share", "rest_above": "share number",
        "is_wider": "one other", "check_wider": "one other paper", "put_together": "one other",
        "taken_from": "one other",
    },
    "windows": {
        "is_window": "share value", "window": "share number weight", "lowest": "share weight",
        "highest": "share weight",
    },
    "tables": {
        "need_table": "thing", "start_of": "table", "end_of": "table", "table_by": "one other order",
        "left_table": "one other", "right_table": "one other", "wider_paper": "one other",
    },
    "crossings": {"crossings": "table", "is_left": "table", "mended": "table crossing", "bend": "table"},
    "costs": {"need_costs": "one other thing", "cost_of": "one other costs table"},
    "kinds": {
        "bends_up": "one other costs", "bends_down": "one other costs", "kind_of": "one other costs",
        "kind_paper": "one other costs", "check_kind": "one other costs paper",
    },
    "cheapest": {
        "cheapest_cost": "one other costs", "dearest_cost": "one other costs", "cheapest_paper": "one other costs",
        "dearest_paper": "one other costs", "check_cheapest": "one other costs paper",
        "check_dearest": "one other costs paper", "gap": "one other costs",
    },
    "shadows": {
        "is_part": "one other", "shadow": "one other", "shadow_paper": "one other", "check_shadow": "one other paper",
    },
    "days": {
        "need_days": "thing", "paths_of": "days", "beginnings": "days", "open_numbers": "days", "is_fair": "days value",
        "fair_share": "days",
    },
    "books": {
        "need_book": "days thing", "mean_of": "days fair claim", "does_keep": "days fair book",
        "is_hedge": "days book value", "pays": "days book hedge", "costs": "days book hedge",
    },
    "fairness": {"fair_paper": "days book", "check_fair": "days book paper"},
    "bounds": {
        "greatest_mean": "days book claim", "least_mean": "days book claim", "is_told": "days book claim",
        "greatest_paper": "days book claim", "least_paper": "days book claim",
        "check_greatest": "days book claim paper", "check_least": "days book claim paper",
    },
    "chained": {
        "share_of_day": "days fair day", "table_of_day": "days fair day", "days_of": "tables", "chained": "tables",
    },
    "terms": {"need_term": "thing", "kids_of": "term", "claim_of": "days term"},
    "mixes": {"need_mix": "thing", "share_of": "mix", "parts_of": "mix"},
    "pricebook": {"under": "manager deed"},
    "texts": {
        "term_text": "term", "mix_text": "mix", "share_text": "share", "table_text": "table", "days_text": "days",
        "read_term": "text", "read_mix": "text", "read_share": "text", "read_table": "text", "read_days": "text",
    },
    "judge": {"judged": "text"},
}
# Of each class what it is made with, its properties, and its methods behind the object itself.
CLASSES = {
    "Pricebook": ("pricebook", "days", ["days", "book"], {
        "labels": "", "put": "label claim bid ask", "change": "label bid ask", "take": "label", "bounds_of": "claim",
        "quote": "label", "undo": "many", "copy": "", "trial": "", "__len__": "", "__eq__": "other",
    }),
    "Shelf": ("shelf", "", [], {
        "put": "label term", "take": "label", "seek": "label", "labels": "", "alike": "days", "paying": "days label",
        "__len__": "", "__contains__": "label", "__eq__": "other",
    }),
    "Desk": ("desk", "text", ["pricebook"], {"say": "line"}),
}


class Interface(unittest.TestCase):
    def test_functions(self):
        for file, functions in LISTED.items():
            module = importlib.import_module("curtainsteps." + file)
            for name, arguments in functions.items():
                function = getattr(module, name)
                self.assertTrue(inspect.isfunction(function), name)
                self.assertEqual(function.__module__, "curtainsteps." + file)
                self.assertEqual(list(inspect.signature(function).parameters), arguments.split(), name)

    def test_classes(self):
        for name, (file, made_with, properties, methods) in CLASSES.items():
            made = getattr(importlib.import_module("curtainsteps." + file), name)
            self.assertTrue(inspect.isclass(made), name)
            self.assertEqual(made.__module__, "curtainsteps." + file)
            self.assertEqual(list(inspect.signature(made).parameters), made_with.split(), name)
            for told in properties:
                self.assertIsInstance(vars(made)[told], property, told)
                self.assertIsNone(vars(made)[told].fset, told)
            for method, arguments in methods.items():
                function = vars(made)[method]
                self.assertTrue(inspect.isfunction(function), method)
                self.assertEqual(list(inspect.signature(function).parameters)[1:], arguments.split(), method)

    def test_what_may_be_left_out(self):
        undo = vars(importlib.import_module("curtainsteps.pricebook").Pricebook)["undo"]
        self.assertEqual(inspect.signature(undo).parameters["many"].default, 1)

    def test_wrong_numbers_of_arguments(self):
        for file, functions in LISTED.items():
            module = importlib.import_module("curtainsteps." + file)
            for name, arguments in functions.items():
                many = len(arguments.split())
                for passed in [many - 1, many + 1]:
                    with self.assertRaises(TypeError):
                        getattr(module, name)(*[()] * passed)

    def test_the_readme_tells_all_files(self):
        with open(os.path.join(ROOT, "README.md"), encoding="utf-8") as file:
            text = file.read()
        for name in os.listdir(os.path.join(ROOT, "curtainsteps")):
            if name.endswith(".py") and name != "__init__.py":
                self.assertIn(f"`{name}`", text)


if __name__ == "__main__":
    unittest.main()
