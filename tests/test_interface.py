"""The names and arguments that the document lists, each defined in the file under which it stands."""

import importlib
import inspect
import unittest

LISTED = {
    "ratios": {
        "need_fraction": "thing", "ratio": "top bottom", "plus": "one other", "less": "one other",
        "times": "one other", "over": "one other", "is_less": "one other",
    },
    "shares": {
        "need_share": "thing", "total": "share", "moment": "share", "rest_above": "share number",
        "is_wider": "one other", "check_wider": "one other paper", "put_together": "one other",
        "taken_from": "one other",
    },
    "windows": {
        "is_window": "share value", "window": "share number weight", "lowest": "share weight",
        "highest": "share weight",
    },
    "tables": {
        "need_table": "thing", "start_of": "table", "end_of": "table", "table_by": "one other order",
        "left_table": "one other", "right_table": "one other", "wider_paper": "one other",
    },
    "crossings": {"crossings": "table", "is_left": "table", "mended": "table crossing", "bend": "table"},
    "costs": {"need_costs": "one other thing", "cost_of": "one other costs table"},
}


class Interface(unittest.TestCase):
    def test_functions(self):
        for file, functions in LISTED.items():
            module = importlib.import_module("curtainsteps." + file)
            for name, arguments in functions.items():
                function = getattr(module, name)
                self.assertTrue(inspect.isfunction(function), name)
                self.assertEqual(function.__module__, "curtainsteps." + file)
                self.assertEqual(list(inspect.signature(function).parameters), arguments.split(), name)

    def test_wrong_numbers_of_arguments(self):
        for file, functions in LISTED.items():
            module = importlib.import_module("curtainsteps." + file)
            for name, arguments in functions.items():
                many = len(arguments.split())
                for passed in [many - 1, many + 1]:
                    with self.assertRaises(TypeError):
                        getattr(module, name)(*[()] * passed)


if __name__ == "__main__":
    unittest.main()
