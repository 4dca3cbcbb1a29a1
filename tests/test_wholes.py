import unittest

from landsentered.wholes import is_short, is_whole
from tests.helper import BEYOND, HUGE, MOST, ODD_THINGS


class Wholes(unittest.TestCase):
    def test_whole_numbers(self):
        for number in (0, 1, -1, MOST, -BEYOND, HUGE, -HUGE):
            self.assertIs(is_whole(number), True)

    def test_no_whole_numbers(self):
        for thing in (True, False, None, "", "1", (1,), [1], {1: 1}):
            self.assertIs(is_whole(thing), False, thing)

    def test_short_ones_have_at_most_twelve_figures(self):
        for number in (0, 1, -1, MOST, -MOST):
            self.assertIs(is_short(number), True)
        for number in (BEYOND, -BEYOND, HUGE, -HUGE):
            self.assertIs(is_short(number), False)

    def test_whatever_thing(self):
        for thing in ODD_THINGS:
            if not isinstance(thing, int):
                self.assertIs(is_short(thing), False, thing)
        self.assertIs(is_short(True), False)
        self.assertIs(is_short(False), False)


if __name__ == "__main__":
    unittest.main()
