import unittest

from landsentered import errors
from landsentered.errors import LandError, NoText

NAMES = ["NoShape", "NoTelling", "NoTime", "NoWatch", "TooMany", "NoTurn", "Clash", "NoText", "NoRow",
         "NoName", "NoLand"]


class Errors(unittest.TestCase):
    def test_all_stand_straight_under_land_error(self):
        self.assertEqual(LandError.__bases__, (ValueError,))
        for name in NAMES:
            self.assertEqual(getattr(errors, name).__bases__, (LandError,), name)
            self.assertEqual(getattr(errors, name).__name__, name)

    def test_none_is_taken_for_another_one(self):
        for name in NAMES:
            for other in NAMES:
                under = issubclass(getattr(errors, name), getattr(errors, other))
                self.assertEqual(under, name == other, (name, other))

    def test_raised_and_taken_as_land_error_and_value_error(self):
        for name in NAMES:
            for kind in (LandError, ValueError):
                with self.assertRaises(kind):
                    raise getattr(errors, name)(0)

    def test_no_text_has_its_line(self):
        for line in (0, 1, 17):
            self.assertEqual(NoText(line).line, line)

    def test_line_is_set_for_each_object(self):
        one = NoText(3)
        other = NoText(4)
        self.assertEqual((one.line, other.line), (3, 4))


if __name__ == "__main__":
    unittest.main()
