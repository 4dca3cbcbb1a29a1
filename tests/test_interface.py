"""The interface's names are there, with arguments by place."""

import importlib
import inspect
import unittest

FUNCTIONS = {
    "boxes": {"is_spot": 1, "is_box": 1, "steps": 2, "has": 2, "steps_to": 2, "steps_between": 2, "square": 2},
    "shapes": {"shape_of": 1, "is_shape": 1, "lies_in": 2, "size": 1},
    "depths": {"depth": 2, "nearest": 2, "side": 3},
    "covers": {"covered": 2, "holds_cover": 3},
    "shows": {"shown": 2, "shows_depth": 3},
    "withins": {"within": 2, "alike": 2},
    "tellings": {"is_name": 1, "is_time": 1, "is_telling": 1, "in_order": 1},
    "looks": {"level": 2, "looked": 3},
    "history": {"gone_on": 2, "history": 1, "view_at": 2},
    "staying": {"stays": 1},
    "book": {"Book": 1, "book_of": 1},
    "carried": {"moved": 3, "turned": 2, "put_off": 2, "called": 3},
    "texts": {"show_tellings": 1, "read_tellings": 1},
    "desk": {"Desk": 1},
}
METHODS = {
    "book": {"tell": 1, "wait": 1, "clock": 0, "edge": 0, "rows": 0, "view": 0, "open_ones": 0, "watch": 3, "unwatch": 1,
             "cut": 0},
    "desk": {"say": 1},
}


class Interface(unittest.TestCase):
    def test_functions_and_how_many_arguments(self):
        for module, functions in FUNCTIONS.items():
            for name, many in functions.items():
                there = getattr(importlib.import_module(f"landsentered.{module}"), name)
                self.assertEqual(len(inspect.signature(there).parameters), many, name)

    def test_methods_and_how_many_arguments(self):
        for module, methods in METHODS.items():
            made = getattr(importlib.import_module(f"landsentered.{module}"), module.capitalize())(5)
            for name, many in methods.items():
                self.assertEqual(len(inspect.signature(getattr(made, name)).parameters), many, name)


if __name__ == "__main__":
    unittest.main()
