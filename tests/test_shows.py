import random
import unittest

from landsentered.boxes import square, steps
from landsentered.covers import covered, holds_cover
from landsentered.depths import depth, nearest
from landsentered.shapes import lies_in
from landsentered.shows import shown, shows_depth
from tests.helper import (BEYOND, HUGE, MOST, ODD_THINGS, as_lists, how_deep, other_hand, places_in, put_at,
                          random_shapes, slow_depth_and_nearest, slow_holds, slow_steps, spots_of_box,
                          spots_of_shape, unchanged, whole)

FIVE = (((0, 0), (4, 4)),)
BESIDE = (((0, 0), (2, 4)), ((3, 0), (5, 4)))
HOLE = (((0, 0), (8, 2)), ((6, 0), (8, 8)), ((0, 6), (8, 8)), ((0, 0), (2, 8)))
AT_THE_BOUND = (((-MOST, -MOST), (MOST, MOST)),)
HALVES = (((-MOST, -MOST), (0, MOST)), ((1, -MOST), (MOST, MOST)))


def slow_shows(shape, spot, thing):
    """Whether a paper shows the depth, by the words of the document, spot by spot."""
    if thing.__class__ is not tuple or (len(thing), thing[:1]) not in ((4, ("in",)), (3, ("out",))):
        return False
    d, other = thing[1], thing[2]
    if not whole(d) or d < 1 or other.__class__ is not tuple or len(other) != 2 or not all(map(whole, other)):
        return False
    if slow_steps(spot, other) != d:
        return False
    if thing[0] == "in":
        return other not in spots_of_shape(shape) and slow_holds(shape, square(spot, d - 1), thing[3])
    near = min(slow_steps(spot, s) for s in spots_of_shape(shape))
    return other in spots_of_shape(shape) and near >= d


class Shown(unittest.TestCase):
    def test_in(self):
        self.assertEqual(shown(FIVE, (2, 2))[:2], ("in", 3))
        self.assertEqual(shown(FIVE, (0, 2))[:2], ("in", 1))
        self.assertEqual(shown(BESIDE, (2, 2))[:2], ("in", 3))
        self.assertEqual(shown(FIVE, (2, 2))[3], ("box", 0))

    def test_out(self):
        self.assertEqual(shown(FIVE, (9, 9)), ("out", 5, (4, 4)))
        self.assertEqual(shown(HOLE, (4, 4))[:2], ("out", 2))
        self.assertEqual(shown(FIVE, (-1, 2))[:2], ("out", 1))

    def test_each_told_one_is_so_and_is_let_by(self):
        for shape in [FIVE, BESIDE, HOLE] + random_shapes(41, 40):
            spots = spots_of_shape(shape)
            for spot in spots_of_box(((-5, -5), (9, 9))):
                told = unchanged(self, shown, shape, spot)
                wanted, _ = slow_depth_and_nearest(shape, spot, 40)
                self.assertEqual(told[:2], ("in", wanted) if spot in spots else ("out", -wanted))
                self.assertIs(slow_shows(shape, spot, told), True, told)
                self.assertIs(shows_depth(shape, spot, told), True, told)

    def test_the_nearest_has_thirteen_figures(self):
        for spot in ((MOST, 0), (-MOST, 7), (0, MOST), (3, -MOST), (0, 0), (MOST - 4, 5), (-MOST, MOST)):
            for shape in (AT_THE_BOUND, HALVES):
                told = unchanged(self, shown, shape, spot)
                self.assertEqual(told[:2], ("in", depth(shape, spot)))
                self.assertEqual(max(abs(told[2][0]), abs(told[2][1])), BEYOND)
                self.assertIs(lies_in(shape, told[2]), False)
                self.assertIs(holds_cover(shape, square(spot, told[1] - 1), told[3]), True)
                self.assertIs(shows_depth(shape, spot, told), True)

    def test_far_off(self):
        told = shown((((MOST, MOST), (MOST, MOST)),), (-MOST, -MOST))
        self.assertEqual(told, ("out", 2 * MOST, (MOST, MOST)))

    def test_at_most_thirty_deep(self):
        for shape in random_shapes(42, 30, low=0, high=14, longest=9):
            for spot in sorted(spots_of_shape(shape)):
                self.assertLessEqual(how_deep(shown(shape, spot)[3]), 30)


class ShowsDepth(unittest.TestCase):
    def holds(self, shape, spot, thing):
        self.assertIs(unchanged(self, shows_depth, shape, spot, thing), True, (shape, spot, thing))

    def fails(self, shape, spot, thing):
        self.assertIs(unchanged(self, shows_depth, shape, spot, thing), False, (shape, spot, thing))

    def test_any_other_that_fits(self):
        for other in spots_of_box(((-1, -1), (5, 5))):
            if slow_steps(other, (2, 2)) == 3:
                self.holds(FIVE, (2, 2), ("in", 3, other, ("box", 0)))
            else:
                self.fails(FIVE, (2, 2), ("in", 3, other, ("box", 0)))
        for other in spots_of_box(((0, 0), (4, 5))):
            if other[1] == 4:
                self.holds(FIVE, (2, 9), ("out", 5, other))
            else:
                self.fails(FIVE, (2, 9), ("out", 5, other))

    def test_any_cover_that_fits(self):
        chance = random.Random(43)
        for shape, spot in ((FIVE, (2, 2)), (BESIDE, (2, 2)), (BESIDE, (3, 2)), (HOLE, (1, 4))):
            told = shown(shape, spot)
            for _ in range(20):
                cover = other_hand(chance, shape, square(spot, told[1] - 1), 0.5)
                self.holds(shape, spot, told[:3] + (cover,))

    def test_another_depth(self):
        for shape, spot in ((FIVE, (2, 2)), (FIVE, (0, 0)), (FIVE, (9, 2)), (BESIDE, (3, 2)), (HOLE, (4, 4))):
            told = shown(shape, spot)
            d = told[1]
            for wrong in (d + 1, d - 1, 0, -d, -1, -2, True, False, None, str(d), (d,), [d], HUGE, -HUGE):
                if wrong is True or wrong != d:
                    self.fails(shape, spot, told[:1] + (wrong,) + told[2:])

    def test_another_depth_with_a_spot_that_far_away(self):
        self.fails(FIVE, (2, 2), ("in", 4, (6, 2), ("box", 0)))
        self.fails(FIVE, (2, 2), ("in", 2, (4, 2), ("box", 0)))
        self.fails(FIVE, (9, 2), ("out", 6, (3, 2)))
        self.fails(FIVE, (9, 2), ("out", 4, (5, 2)))
        self.holds(FIVE, (9, 2), ("out", 5, (4, 2)))
        self.fails(FIVE, (2, 2), ("out", 0, (2, 2)))
        self.fails(FIVE, (9, 2), ("in", 0, (9, 2), ("box", 0)))
        self.fails(FIVE, (9, 2), ("out", 0, (9, 2)))

    def test_a_nearer_box(self):
        shape = (((0, 0), (1, 9)), ((2, 0), (2, 0)), ((3, 1), (9, 9)))
        self.holds(shape, (-2, 5), ("out", 2, (0, 5)))
        self.fails(shape, (12, 5), ("out", 11, (1, 5)))
        self.holds(shape, (12, 5), ("out", 3, (9, 5)))
        self.fails(shape, (6, -2), ("out", 4, (2, 0)))
        self.holds(shape, (6, -2), ("out", 3, (6, 1)))

    def test_one_step_and_a_truth_for_it(self):
        self.holds(FIVE, (0, 0), ("in", 1, (-1, 0), ("box", 0)))
        self.fails(FIVE, (0, 0), ("in", True, (-1, 0), ("box", 0)))
        self.holds(FIVE, (-1, 0), ("out", 1, (0, 0)))
        self.fails(FIVE, (-1, 0), ("out", True, (0, 0)))

    def test_another_spot(self):
        for spot in ((3, 2), (2, 1), (0, 0), (9, 9), (-3, 2)):
            self.fails(FIVE, spot, ("in", 3, (-1, 2), ("box", 0)))
        for spot in ((2, 2), (8, 2), (10, 9)):
            self.fails(FIVE, spot, ("out", 5, (4, 2)))

    def test_a_list_or_a_truth_or_whatever_for_the_other(self):
        for wrong in ([-1, 2], (-1, 2, 0), (-1,), (-1, "2"), (None, 2), "-1,2", -1, {0: -1, 1: 2}):
            self.fails(FIVE, (2, 2), ("in", 3, wrong, ("box", 0)))
        self.fails(FIVE, (1, 2), ("in", 2, (-1, True), ("box", 0)))
        self.holds(FIVE, (1, 2), ("in", 2, (-1, 1), ("box", 0)))
        self.fails(FIVE, (2, 0), ("in", 1, (True, -1), ("box", 0)))
        self.holds(FIVE, (2, 0), ("in", 1, (1, -1), ("box", 0)))
        for wrong in ([0, 0], (False, 0), (0, False), (False, False), (0,), (0, 0, 0)):
            self.fails(FIVE, (-1, 0), ("out", 1, wrong))
        for thing in ODD_THINGS:
            self.fails(FIVE, (2, 2), ("in", 3, thing, ("box", 0)))
            self.fails(FIVE, (9, 2), ("out", 5, thing))
            self.fails(FIVE, (2, 2), ("in", 3, (thing, 2), ("box", 0)))
            self.fails(FIVE, (2, 2), ("in", 3, (2, thing), ("box", 0)))

    def test_a_spot_on_the_wrong_side(self):
        shape = FIVE + (((5, 0), (9, 0)),)
        self.fails(shape, (2, 2), ("in", 3, (5, 0), ("box", 0)))
        self.holds(shape, (2, 2), ("in", 3, (5, 1), ("box", 0)))
        self.fails(shape, (2, 7), ("out", 3, (5, 4)))
        self.holds(shape, (2, 7), ("out", 3, (4, 4)))

    def test_another_squares_cover(self):
        told = shown(BESIDE, (2, 2))
        self.assertEqual(told[3][0], "cut")
        for spot, r in (((0, 2), 0), ((1, 2), 1), ((4, 2), 1), ((2, 2), 0)):
            word, cover = covered(BESIDE, square(spot, r))
            self.assertEqual(word, "yes")
            self.fails(BESIDE, (2, 2), told[:3] + (cover,))
        self.fails(BESIDE, (4, 2), shown(BESIDE, (4, 2))[:3] + (("box", 0),))
        self.fails(BESIDE, (1, 2), shown(BESIDE, (1, 2))[:3] + (told[3][:2] + (4,) + told[3][3:],))
        for thing in ODD_THINGS + [["box", 0], ("yes", ("box", 0)), ("box", True), ("box", False)]:
            self.fails(FIVE, (2, 2), ("in", 3, (-1, 2), thing))

    def test_a_cover_of_the_square_one_less_is_not_enough(self):
        self.fails(BESIDE, (1, 2), ("in", 3, (4, 5), ("box", 0)))
        self.fails(HOLE, (1, 4), ("in", 3, (4, 4), ("box", 3)))
        self.holds(HOLE, (1, 4), ("in", 2, (3, 4), ("box", 3)))

    def test_the_other_word(self):
        self.fails(FIVE, (2, 2), ("out", 3, (-1, 2), ("box", 0)))
        self.fails(FIVE, (2, 2), ("out", 3, (-1, 2)))
        self.fails(FIVE, (2, 2), ("in", 3, (-1, 2)))
        self.fails(FIVE, (9, 2), ("in", 5, (4, 2)))
        self.fails(FIVE, (9, 2), ("in", 5, (4, 2), ("box", 0)))
        self.fails(FIVE, (9, 2), ("out", 5, (4, 2), ("box", 0)))
        for word in ["", "In", "in ", "between", None, 0, True, ("in",), ["in"]]:
            self.fails(FIVE, (2, 2), (word, 3, (-1, 2), ("box", 0)))
            self.fails(FIVE, (9, 2), (word, 5, (4, 2)))

    def test_a_part_more_and_a_part_less(self):
        for spot in ((2, 2), (9, 2)):
            told = shown(FIVE, spot)
            for k in range(len(told)):
                self.fails(FIVE, spot, told[:k] + told[k + 1:])
                self.fails(FIVE, spot, told[:k] + (told[k],) + told[k:])
                self.fails(FIVE, spot, told[:k])
            self.fails(FIVE, spot, told + (None,))

    def test_a_list_for_the_whole(self):
        for spot in ((2, 2), (9, 2)):
            told = shown(FIVE, spot)
            self.fails(FIVE, spot, list(told))
            self.fails(FIVE, spot, as_lists(told))
            self.fails(FIVE, spot, (told,))

    def test_whatever_thing(self):
        for thing in ODD_THINGS:
            for spot in ((2, 2), (9, 2)):
                self.fails(FIVE, spot, thing)
                self.fails(FIVE, spot, (thing, 3, (-1, 2), ("box", 0)))
                self.fails(FIVE, spot, (thing, 5, (4, 2)))
                self.fails(FIVE, spot, ("in", thing, (-1, 2), ("box", 0)))
                self.fails(FIVE, spot, ("out", thing, (4, 2)))

    def test_more_than_twelve_figures(self):
        self.holds(AT_THE_BOUND, (MOST, 0), ("in", 1, (BEYOND, 1), ("box", 0)))
        self.fails(AT_THE_BOUND, (MOST, 0), ("in", 2, (BEYOND + 1, 1), ("box", 0)))
        self.holds(AT_THE_BOUND, (0, 0), ("in", BEYOND, (5, BEYOND), ("box", 0)))
        self.fails(AT_THE_BOUND, (0, 0), ("in", BEYOND + 1, (5, BEYOND + 1), ("box", 0)))
        self.fails(AT_THE_BOUND, (0, 0), ("in", HUGE, (HUGE, 0), ("box", 0)))
        self.fails(FIVE, (MOST, 0), ("out", HUGE, (MOST - HUGE, 0)))

    def test_whatever_is_let_by_is_so(self):
        chance = random.Random(44)
        odd = [None, True, False, -1, 0, 1, 2, 3, 4, 5, "in", "out", "box", "", (), [], (0, 0), (1, 5), (5, 1), [0, 0],
               ("box", 0), ("box", 1), HUGE]
        answers = []
        for shape in [FIVE, BESIDE, HOLE] + random_shapes(45, 15):
            for _ in range(6):
                spot = (chance.randint(-4, 8), chance.randint(-4, 8))
                told = shown(shape, spot)
                near = [(chance.randint(-6, 10), chance.randint(-6, 10)) for _ in range(10)]
                things = [put_at(told, place, part) for place in places_in(told) for part in odd]
                things += [(told[0], d, other) + told[3:] for d in range(-1, 8) for other in near]
                for thing in things:
                    answers.append(self.as_told(shape, spot, thing))
        self.assertGreater(answers.count(True), 100)
        self.assertGreater(answers.count(False), 1000)

    def as_told(self, shape, spot, thing):
        told = shows_depth(shape, spot, thing)
        self.assertIs(told, slow_shows(shape, spot, thing), (shape, spot, thing))
        if told:
            self.assertEqual(depth(shape, spot), thing[1] if thing[0] == "in" else -thing[1])
            self.assertEqual(steps(spot, nearest(shape, spot)), thing[1])
        return told


if __name__ == "__main__":
    unittest.main()
