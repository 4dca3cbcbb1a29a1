import random
import unittest

from landsentered.boxes import (cut_out, has, has_all, is_any_spot, is_box, is_spot, left_over, onward_from,
                                spots_in, square, steps, steps_between, steps_to, up_to)
from tests.helper import (BEYOND, HUGE, MOST, ODD_THINGS, random_box, slow_halves, slow_steps, slow_steps_between,
                          spots_of_box, unchanged)


class IsSpot(unittest.TestCase):
    def test_spots(self):
        for spot in ((0, 0), (1, -1), (-5, 7), (MOST, MOST), (-MOST, -MOST), (MOST, -MOST), (1, 2)):
            self.assertIs(is_spot(spot), True, spot)

    def test_thirteen_figures(self):
        for number in (BEYOND, -BEYOND, HUGE, -HUGE):
            self.assertIs(is_spot((number, 0)), False)
            self.assertIs(is_spot((0, number)), False)

    def test_truths_texts_and_others_in_a_part(self):
        for part in (True, False, None, "", "1", (), (1,), [1], {}, {1: 1}):
            self.assertIs(is_spot((part, 0)), False, part)
            self.assertIs(is_spot((0, part)), False, part)

    def test_too_few_and_too_many_parts(self):
        for thing in ((), (1,), (1, 2, 3), (0, 0, 0, 0)):
            self.assertIs(is_spot(thing), False, thing)

    def test_list_for_tuple(self):
        self.assertIs(is_spot([1, 2]), False)

    def test_whatever_thing(self):
        for thing in ODD_THINGS:
            self.assertIs(unchanged(self, is_spot, thing), False, thing)
            self.assertIs(is_spot((0, thing)), isinstance(thing, int) and not isinstance(thing, bool)
                          and abs(thing) <= MOST, thing)


class IsAnySpot(unittest.TestCase):
    def test_of_however_many_figures(self):
        for spot in ((0, 0), (MOST, -MOST), (BEYOND, 0), (0, -BEYOND), (HUGE, HUGE), (-HUGE * HUGE, 1)):
            self.assertIs(unchanged(self, is_any_spot, spot), True, spot)

    def test_whatever_thing(self):
        for thing in ODD_THINGS + [[1, 2], (True, 0), (0, False), (1,), (1, 2, 3), ("1", 2)]:
            self.assertIs(unchanged(self, is_any_spot, thing), False, thing)


class IsBox(unittest.TestCase):
    def test_boxes(self):
        for box in (((0, 0), (0, 0)), ((0, 0), (3, 1)), ((-3, -1), (-2, 0)), ((5, 2), (5, 9)), ((5, 2), (9, 2)),
                    ((-MOST, -MOST), (MOST, MOST)), ((MOST, -MOST), (MOST, -MOST))):
            self.assertIs(is_box(box), True, box)

    def test_low_above_high_in_one_way_alone(self):
        for box in (((1, 0), (0, 0)), ((0, 1), (0, 0)), ((1, 0), (0, 5)), ((0, 6), (9, 5)), ((1, 1), (0, 0))):
            self.assertIs(is_box(box), False, box)

    def test_thirteen_figures(self):
        self.assertIs(is_box(((-BEYOND, 0), (0, 0))), False)
        self.assertIs(is_box(((0, -BEYOND), (0, 0))), False)
        self.assertIs(is_box(((0, 0), (BEYOND, 0))), False)
        self.assertIs(is_box(((0, 0), (0, BEYOND))), False)

    def test_truths_and_others_in_a_number(self):
        for part in (True, False, None, "1", (1,), [1], {}):
            for box in (((part, 0), (2, 2)), ((0, part), (2, 2)), ((0, 0), (part, 2)), ((0, 0), (2, part))):
                self.assertIs(is_box(box), False, box)

    def test_too_few_and_too_many_parts(self):
        for thing in ((), ((0, 0),), ((0, 0), (1, 1), (2, 2)), ((0,), (1, 1)), ((0, 0), (1, 1, 1)), (0, 0),
                      (0, 0, 1, 1)):
            self.assertIs(is_box(thing), False, thing)

    def test_list_for_tuple(self):
        for thing in ([(0, 0), (1, 1)], ([0, 0], (1, 1)), ((0, 0), [1, 1]), [[0, 0], [1, 1]]):
            self.assertIs(unchanged(self, is_box, thing), False, thing)

    def test_whatever_thing(self):
        for thing in ODD_THINGS:
            self.assertIs(unchanged(self, is_box, thing), False, thing)
            self.assertIs(is_box((thing, (0, 0))), False, thing)
            self.assertIs(is_box(((0, 0), thing)), False, thing)


class Steps(unittest.TestCase):
    def test_the_greater_of_both_ways(self):
        self.assertEqual(steps((0, 0), (3, 1)), 3)
        self.assertEqual(steps((0, 0), (1, 3)), 3)
        self.assertEqual(steps((2, 5), (-2, 7)), 4)
        self.assertEqual(steps((-1, -1), (-1, -1)), 0)
        self.assertEqual(steps((0, 0), (-1, -1)), 1)
        self.assertEqual(steps((4, 4), (4, -4)), 8)

    def test_both_ways_round(self):
        for other in spots_of_box(((-3, -3), (3, 3))):
            self.assertEqual(unchanged(self, steps, (1, -1), other), slow_steps((1, -1), other))
            self.assertEqual(steps(other, (1, -1)), slow_steps((1, -1), other))

    def test_any_spots(self):
        self.assertEqual(steps((HUGE, 0), (-HUGE, 5)), 2 * HUGE)
        self.assertEqual(steps((0, -HUGE), (HUGE - 1, 1)), HUGE + 1)


class HasAndStepsTo(unittest.TestCase):
    def test_against_the_spots_one_by_one(self):
        for box in (((0, 0), (0, 0)), ((-1, 0), (2, 1)), ((1, -2), (1, 2)), ((-2, -2), (2, -2))):
            spots = spots_of_box(box)
            for spot in spots_of_box(((-6, -6), (6, 6))):
                self.assertIs(unchanged(self, has, box, spot), spot in spots, (box, spot))
                least = min(slow_steps(spot, other) for other in spots)
                self.assertEqual(unchanged(self, steps_to, box, spot), least, (box, spot))

    def test_both_ends_are_among_them(self):
        box = ((-2, 3), (4, 9))
        for spot in ((-2, 3), (4, 9), (-2, 9), (4, 3)):
            self.assertIs(has(box, spot), True)
        for spot in ((-3, 3), (5, 9), (-2, 10), (4, 2)):
            self.assertIs(has(box, spot), False)
            self.assertEqual(steps_to(box, spot), 1)

    def test_any_spot(self):
        box = ((-MOST, -MOST), (MOST, MOST))
        for spot in ((HUGE, 0), (0, HUGE), (-HUGE, 0), (0, -HUGE), (HUGE, -HUGE)):
            self.assertIs(has(box, spot), False)
            self.assertEqual(steps_to(box, spot), HUGE - MOST)
        self.assertIs(has(box, (MOST, -MOST)), True)
        self.assertIs(has(box, (BEYOND, 0)), False)
        self.assertEqual(steps_to(box, (BEYOND, 0)), 1)


class StepsBetween(unittest.TestCase):
    def both(self, one, other, wanted):
        self.assertEqual(unchanged(self, steps_between, one, other), wanted)
        self.assertEqual(unchanged(self, steps_between, other, one), wanted)

    def test_beside(self):
        self.both(((0, 0), (2, 2)), ((3, 0), (5, 2)), 1)
        self.both(((0, 0), (2, 2)), ((0, 3), (2, 5)), 1)
        self.both(((0, 0), (2, 2)), ((4, 1), (5, 1)), 2)
        self.both(((0, 0), (2, 2)), ((1, 7), (1, 9)), 5)

    def test_over_one_another(self):
        self.both(((0, 0), (2, 2)), ((2, 2), (5, 5)), 0)
        self.both(((0, 0), (9, 9)), ((3, 4), (4, 4)), 0)
        self.both(((0, 4), (9, 5)), ((4, 0), (5, 9)), 0)
        self.both(((0, 0), (2, 2)), ((0, 0), (2, 2)), 0)

    def test_at_a_corner(self):
        self.both(((0, 0), (2, 2)), ((3, 3), (4, 4)), 1)
        self.both(((0, 0), (2, 2)), ((-4, 3), (-1, 4)), 1)
        self.both(((0, 0), (2, 2)), ((4, 3), (5, 5)), 2)
        self.both(((0, 0), (2, 2)), ((3, 6), (5, 9)), 4)

    def test_twelve_figures(self):
        self.both(((-MOST, 0), (-MOST, 0)), ((MOST, -3), (MOST, 3)), 2 * MOST)

    def test_against_the_spots_one_by_one(self):
        chance = random.Random(4)
        for _ in range(300):
            one = random_box(chance, -4, 4, 3)
            other = random_box(chance, -4, 4, 3)
            self.both(one, other, slow_steps_between(one, other))


class Square(unittest.TestCase):
    def test_r_of_nothing(self):
        self.assertEqual(square((3, -4), 0), ((3, -4), (3, -4)))

    def test_r_greater(self):
        self.assertEqual(square((3, -4), 1), ((2, -5), (4, -3)))
        self.assertEqual(square((0, 0), 7), ((-7, -7), (7, 7)))

    def test_all_spots_at_most_r_away(self):
        for r in range(4):
            wanted = [s for s in spots_of_box(((-9, -9), (9, 9))) if slow_steps(s, (1, -2)) <= r]
            self.assertEqual(spots_of_box(unchanged(self, square, (1, -2), r)), wanted)

    def test_beyond_twelve_figures(self):
        box = square((MOST, -MOST), 1)
        self.assertEqual(box, ((MOST - 1, -BEYOND), (BEYOND, 1 - MOST)))
        self.assertIs(is_box(box), False)
        self.assertIs(has(box, (BEYOND, -BEYOND)), True)
        self.assertEqual(square((0, 0), HUGE), ((-HUGE, -HUGE), (HUGE, HUGE)))


class Pieces(unittest.TestCase):
    def test_cut_out_against_the_spots_one_by_one(self):
        chance = random.Random(7)
        for _ in range(300):
            one = random_box(chance, -4, 4, 3)
            other = random_box(chance, -4, 4, 3)
            told = [spot for piece in unchanged(self, cut_out, one, other) for spot in spots_of_box(piece)]
            self.assertEqual(sorted(told), [s for s in spots_of_box(one) if s not in spots_of_box(other)])

    def test_left_over_of_several(self):
        chance = random.Random(8)
        for _ in range(100):
            others = [random_box(chance, -4, 4, 3) for _ in range(5)]
            gone = {spot for other in others for spot in spots_of_box(other)}
            told = [spot for piece in unchanged(self, left_over, ((-3, -3), (4, 4)), others)
                    for spot in spots_of_box(piece)]
            self.assertEqual(sorted(told), [s for s in spots_of_box(((-3, -3), (4, 4))) if s not in gone])

    def test_has_all_against_the_spots_one_by_one(self):
        chance = random.Random(9)
        for _ in range(300):
            one = random_box(chance, -2, 2, 4)
            other = random_box(chance, -2, 2, 2)
            wanted = set(spots_of_box(other)) <= set(spots_of_box(one))
            self.assertIs(unchanged(self, has_all, one, other), wanted, (one, other))

    def test_both_sides_of_a_cut(self):
        box = ((-2, 1), (3, 5))
        for way in (0, 1):
            for at in range(box[0][way], box[1][way]):
                told = (unchanged(self, up_to, box, way, at), unchanged(self, onward_from, box, way, at + 1))
                self.assertEqual(told, slow_halves(box, way, at))

    def test_spots_in(self):
        self.assertEqual(spots_in(((0, 0), (0, 0))), 1)
        self.assertEqual(spots_in(((-1, 2), (1, 6))), 15)


if __name__ == "__main__":
    unittest.main()
