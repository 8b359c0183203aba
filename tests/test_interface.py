"""What the interface lists: each name in its file, with its arguments, and `shows` in the class itself."""

import importlib
import inspect
import unittest

FUNCTIONS = {
    "changes": {"done": "kinds text change", "done_all": "kinds text changes"},
    "tables": {"entry_of": "one other", "partner": "entry", "natural": "kinds", "values_of": "kinds entry"},
    "twohands": {"judge_two": "table", "meet_well": "table text one other"},
    "anyhands": {"in_order": "table text changes order", "all_orders": "table text changes", "judge_any": "table"},
    "fillings": {"good_values": "kinds entry", "count_two": "kinds part", "judge_filling": "kinds part many"},
    "repairs": {"failing": "table", "friends": "table", "repaired": "table", "repaired_any": "table most"},
    "lists": {"effect": "kinds changes", "same_lists": "kinds one other", "lists_behind": "table one other"},
    "counting": {"mirrored": "table", "tables_two": "kinds part most", "count_any": "kinds part",
                 "tables_any": "kinds part", "together": "kinds many", "needs_hands": "kinds name"},
    "houses": {"run": "table text hands steps", "closing": "table text hands steps", "judge_house": "table hands"},
    "histories": {"orders_of": "table history", "done_in": "table text history order",
                  "judge_history": "table text history"},
    "turning": {"taken_back": "kinds text change", "kind_back": "kinds name", "list_back": "kinds text changes",
                "renamed": "table names", "exchanged": "table", "turned_kinds": "kinds", "turned": "kinds text change"},
    "tabletexts": {"read_kinds": "text", "read_table": "text", "read_run": "kinds text", "write_kinds": "kinds",
                   "write_table": "table", "write_run": "text hands steps"},
    "trees": {"run_tree": "table text links steps", "closing_tree": "table text links steps",
              "judge_tree": "table links"},
}

# The arguments of the class, and those of its method shows.
EVIDENCE = {
    "twohands": {"Meets": ("ends", "table"), "Splits": ("text one other", "table")},
    "anyhands": {"Agrees": ("", "table"), "Turns": ("text changes one other", "table")},
    "fillings": {"Filled": ("table", "kinds part many"), "Barred": ("tree", "kinds part many")},
    "repairs": {"Repair": ("changes many", "table")},
    "houses": {"Serves": ("hands", "table hands"), "Fails": ("text steps", "table hands")},
    "histories": {"SameEnd": ("text", "table text history"), "PartedEnd": ("one other", "table text history")},
    "trees": {"Grows": ("links", "table links"), "Withers": ("text steps", "table links")},
}

# The arguments of other classes, and of their methods.
CLASSES = {
    "kinds": {"Kinds": ("told", {"names": "", "growth": "name"})},
    "tables": {"Table": ("kinds told", {"behind": "one other", "with_entry": "entry value"})},
    "lists": {"Effect": ("need row", {"of": "text"})},
    "houses": {"End": ("text texts waiting unheard", {}), "BadStep": ("place", {}), "BadHistory": ("number", {}),
               "BadScript": ("line column", {}), "NothingDone": (None, {})},
    "desks": {"Desk": ("table text hands", {
        "does": "change", "sends": "hand", "hears": "hand", "close": "", "undo": "", "steps": "", "text": "", "texts": "",
        "of": "hand", "waits": "hand", "trial": "", "attempt": "work", "__len__": ""})},
    "trees": {"TreeEnd": ("texts waiting unheard", {})},
}


def arguments(called):
    """The names of the parameters of a function."""
    return list(inspect.signature(called).parameters)


class Interface(unittest.TestCase):
    def test_functions(self):
        for file, told in FUNCTIONS.items():
            module = importlib.import_module(f"changetables.{file}")
            for name, words in told.items():
                with self.subTest(file=file, name=name):
                    self.assertEqual(getattr(module, name).__module__, module.__name__)
                    self.assertEqual(arguments(getattr(module, name)), words.split())

    def test_evidence(self):
        for file, told in EVIDENCE.items():
            module = importlib.import_module(f"changetables.{file}")
            for name, (made, shown) in told.items():
                with self.subTest(file=file, name=name):
                    found = getattr(module, name)
                    self.assertEqual(found.__module__, module.__name__)
                    self.assertEqual(arguments(found), made.split())
                    self.assertIn("shows", vars(found))
                    self.assertEqual(arguments(found.shows), ["self", *shown.split()])

    def test_other_classes(self):
        for file, told in CLASSES.items():
            module = importlib.import_module(f"changetables.{file}")
            for name, (made, methods) in told.items():
                with self.subTest(file=file, name=name):
                    found = getattr(module, name)
                    self.assertEqual(found.__module__, module.__name__)
                    if made is not None:
                        self.assertEqual(arguments(found), made.split())
                    for method, words in methods.items():
                        self.assertIn(method, vars(found))
                        self.assertEqual(arguments(vars(found)[method]), ["self", *words.split()])


if __name__ == "__main__":
    unittest.main()
