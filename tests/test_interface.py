"""The interface: names, arguments by place, and methods in the body of their own class."""

import importlib
import inspect
import unittest

NONE = inspect.Parameter.empty
FUNCTIONS = {
    "kinds": {"is_whole": 1, "is_name": 1, "is_box": 1, "is_face": 1, "is_turning": 1, "is_deed": 1},
    "turnings": {"both": 2, "undone": 1, "turnings_of": 1},
    "faces": {"blank": 1, "box_of": 1, "turned": 2, "laid": 2, "ups": 1, "face_of": 2, "is_even": 2},
    "rows": {"done_row": 2, "led_back": 2, "prints": 3, "shown": 2},
    "lots": {"joined": 2, "met": 2, "alike": 2},
    "wishes": {"answer": 2, "is_answer": 3},
    "counts": {"standings_many": 1, "some_many": 2},
    "tables": {"is_table": 3, "table_of": 3, "behind": 3, "undone_table": 2, "many_times": 3, "made": 2},
    "far": {"far": 3, "round_of": 2},
    "parted": {"apart": 3, "is_alike": 4, "sheet_ahead": 2, "unseen": 1},
    "stories": {"agree": 4, "agree_many": 4, "agreeing": 5, "sure": 4, "is_clash": 5},
    "prices": {"standings": 2, "prices": 3, "fewest": 3, "is_fair": 4},
    "texts": {"show_face": 1, "show_deed": 1, "show_row": 1, "show_stamps": 1, "read_face": 1, "read_deed": 1, "read_row": 1,
              "read_stamps": 1},
}
METHODS = {
    ("stamps", "Stamps"): {"__init__": 1, "box": 0, "names": 0, "faces": 0, "face": 1, "done": 1},
    ("lots", "Lot"): {"__init__": 2, "box": 0, "rows": 0, "doublings": 0, "has": 1, "core": 0, "still": 0, "against": 0,
                      "layers": 0, "makers": 0, "member": 1, "number_of": 1, "comb": 1},
    ("webs", "Web"): {"__init__": 2, "box": 0, "names": 0, "presses": 0, "turns": 0, "panes": 0},
    ("books", "Book"): {"__init__": 1, "do": 1, "put": 2, "slip": 2, "take": 1, "back": 0, "again": 0, "row": 0, "length": 0,
                        "standing": 1, "healed": 2, "tried": 1, "stamps": 0, "copied": 0},
}
# What stands behind a `*`, by name, with what it is where it is left out.
BY_NAME = {
    ("webs", "Web", "__init__"): {"presses": NONE, "turns": NONE, "panes": NONE},
    ("prices", "standings"): {"most": 600},
    ("prices", "prices"): {"most": 600, "press": 1, "turn": 0},
    ("prices", "fewest"): {"most": 600, "press": 1, "turn": 0},
    ("prices", "is_fair"): {"press": 1, "turn": 0},
}


class Interface(unittest.TestCase):
    def check(self, function, many, by_name):
        """Whether a function takes so many things by place, and these by name."""
        self.assertTrue(inspect.isfunction(function))
        parameters = inspect.signature(function).parameters.values()
        by_place = [one for one in parameters if one.kind is one.POSITIONAL_OR_KEYWORD and one.default is NONE]
        self.assertEqual(len(by_place), many)
        self.assertEqual({one.name: one.default for one in parameters if one not in by_place}, by_name)
        self.assertTrue(all(one in by_place or one.kind is one.KEYWORD_ONLY for one in parameters))

    def test_functions(self):
        for module, names in FUNCTIONS.items():
            for name, many in names.items():
                with self.subTest(module=module, name=name):
                    function = getattr(importlib.import_module(f"faceonface.{module}"), name)
                    self.check(function, many, BY_NAME.get((module, name), {}))

    def test_methods(self):
        for (module, kind), names in METHODS.items():
            made = getattr(importlib.import_module(f"faceonface.{module}"), kind)
            for name, many in names.items():
                with self.subTest(kind=kind, name=name):
                    self.assertIn(name, vars(made))
                    self.check(vars(made)[name], many + 1, BY_NAME.get((module, kind, name), {}))
