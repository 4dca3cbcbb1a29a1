import random
import unittest

from landsentered.covers import covered, holds_cover
from landsentered.shapes import is_shape
from tests.helper import (BEYOND, HUGE, MOST, ODD_THINGS, as_lists, deep, how_deep, other_hand, part_at, places_in,
                          put_at, random_box, random_shapes, slow_holds, slow_lacking, spots_of_box,
                          spots_of_shape, unchanged)

ONE = (((0, 0), (9, 9)),)
BESIDE = (((0, 0), (4, 4)), ((5, 0), (9, 4)))
BELOW = (((0, 0), (4, 4)), ((0, 5), (4, 9)))
OVER = (((0, 0), (5, 5)), ((3, 0), (9, 5)), ((0, 3), (9, 9)))
HOLE = (((0, 0), (8, 2)), ((6, 0), (8, 8)), ((0, 6), (8, 8)), ((0, 0), (2, 8)))
FILLED = HOLE + (((3, 3), (4, 6)), ((5, 3), (5, 5)))
ABOUT = ((0, 0), (8, 8))
BOUND = ((-MOST, -MOST), (MOST, MOST))
AT_THE_BOUND = (BOUND,)
# Six boxes of twelve figures: two frames' sides that turn about a middle, which the last two fill.
WHEEL = (
    ((-MOST, -MOST), (10 ** 11, -10 ** 11)),
    ((10 ** 11 + 1, -MOST), (MOST, 10 ** 11)),
    ((-10 ** 11, 10 ** 11 + 1), (MOST, MOST)),
    ((-MOST, -10 ** 11 + 1), (-10 ** 11 - 1, MOST)),
    ((-10 ** 11, -10 ** 11 + 1), (0, 10 ** 11)),
    ((1, -10 ** 11 + 1), (10 ** 11, 10 ** 11)),
)


class Covered(unittest.TestCase):
    def yes(self, shape, box):
        word, cover = unchanged(self, covered, shape, box)
        self.assertEqual(word, "yes")
        self.assertIs(holds_cover(shape, box, cover), True)
        self.assertLessEqual(how_deep(cover), 30)
        return cover

    def no(self, shape, box, spot):
        self.assertEqual(unchanged(self, covered, shape, box), ("no", spot))

    def test_one_box_alone(self):
        for box in (ONE[0], ((0, 0), (0, 0)), ((9, 9), (9, 9)), ((2, 3), (4, 9))):
            self.assertEqual(self.yes(ONE, box), ("box", 0))
        self.assertEqual(self.yes(BESIDE, ((5, 0), (9, 4))), ("box", 1))

    def test_several_together(self):
        self.assertEqual(self.yes(BESIDE, ((0, 0), (9, 4))), ("cut", 0, 4, ("box", 0), ("box", 1)))
        self.assertEqual(self.yes(BESIDE, ((3, 1), (6, 2))), ("cut", 0, 4, ("box", 0), ("box", 1)))
        self.assertEqual(self.yes(BELOW, ((0, 0), (4, 9))), ("cut", 1, 4, ("box", 0), ("box", 1)))

    def test_over_one_another(self):
        self.yes(OVER, ((0, 0), (9, 9)))
        self.yes(OVER, ((1, 1), (8, 8)))
        self.yes(OVER, ((5, 5), (6, 6)))

    def test_about_a_hole_that_is_filled(self):
        self.no(HOLE, ABOUT, (3, 3))
        self.no(HOLE, ((4, 4), (8, 8)), (4, 4))
        self.no(FILLED[:5], ABOUT, (5, 3))
        self.yes(FILLED, ABOUT)
        for spot in spots_of_box(ABOUT):
            self.yes(FILLED, (spot, (8, 8)))

    def test_one_spot_too_far(self):
        self.no(ONE, ((-1, 0), (9, 9)), (-1, 0))
        self.no(ONE, ((0, -1), (9, 9)), (0, -1))
        self.no(ONE, ((0, 0), (10, 9)), (10, 0))
        self.no(ONE, ((0, 0), (9, 10)), (0, 10))
        self.no(ONE, ((-1, -1), (10, 10)), (-1, -1))

    def test_the_least_is_by_x_first(self):
        self.no((((0, 0), (4, 4)), ((5, 1), (5, 4))), ((0, 0), (6, 5)), (0, 5))
        self.no((((0, 0), (4, 9)), ((5, 1), (5, 4))), ((0, 0), (6, 5)), (5, 0))

    def test_against_the_spots_one_by_one(self):
        chance = random.Random(21)
        words = []
        for shape in [ONE, BESIDE, OVER, HOLE, FILLED] + random_shapes(22, 150):
            for _ in range(12):
                box = random_box(chance, -4, 6, chance.randint(1, 5))
                lacking = slow_lacking(shape, box)
                if lacking is None:
                    self.assertIs(slow_holds(shape, box, self.yes(shape, box)), True)
                else:
                    self.no(shape, box, lacking)
                words.append(lacking is None)
        self.assertGreater(words.count(True), 50)
        self.assertGreater(words.count(False), 50)

    def test_boxes_of_the_shape_and_one_round_it(self):
        for shape in random_shapes(23, 80):
            for (x0, y0), (x1, y1) in shape:
                self.yes(shape, ((x0, y0), (x1, y1)))
                round_it = ((x0 - 1, y0 - 1), (x1 + 1, y1 + 1))
                lacking = slow_lacking(shape, round_it)
                if lacking is None:
                    self.yes(shape, round_it)
                else:
                    self.no(shape, round_it, lacking)

    def test_all_boxes_in_a_shape_of_many_steps(self):
        steep = tuple(((k, k), (k + 5, 9 - k)) for k in range(5))
        for shape in (steep, steep + (((0, 0), (9, 9)),)):
            self.assertIs(is_shape(shape), True)
            for low in spots_of_box(((0, 0), (9, 9))):
                for high in ((9, 9), (5, 6), (6, 5), (7, 7)):
                    if low[0] <= high[0] and low[1] <= high[1]:
                        lacking = slow_lacking(shape, (low, high))
                        self.assertEqual(covered(shape, (low, high))[0], "no" if lacking else "yes")

    def test_more_than_twelve_figures(self):
        self.no(AT_THE_BOUND, ((-BEYOND, 0), (0, 0)), (-BEYOND, 0))
        self.no(AT_THE_BOUND, ((0, 0), (BEYOND, 0)), (BEYOND, 0))
        self.no(AT_THE_BOUND, ((0, 0), (0, BEYOND)), (0, BEYOND))
        self.no(AT_THE_BOUND, ((0, -BEYOND), (0, 0)), (0, -BEYOND))
        self.no(AT_THE_BOUND, ((-HUGE, -HUGE), (HUGE, HUGE)), (-HUGE, -HUGE))
        self.no(AT_THE_BOUND, ((0, 0), (HUGE, HUGE)), (0, BEYOND))
        self.no(ONE, ((HUGE, HUGE), (HUGE, HUGE)), (HUGE, HUGE))
        self.assertEqual(self.yes(AT_THE_BOUND, BOUND), ("box", 0))

    def test_six_boxes_of_twelve_figures(self):
        self.assertIs(is_shape(WHEEL), True)
        self.yes(WHEEL, BOUND)
        self.yes(WHEEL, ((-5, -7), (5, 7)))
        self.no(WHEEL[:5], BOUND, (1, -10 ** 11 + 1))
        self.no(WHEEL[:4] + WHEEL[5:], BOUND, (-10 ** 11, -10 ** 11 + 1))
        self.no(WHEEL, ((0, 0), (BEYOND, 3)), (BEYOND, 0))

    def test_six_boxes_with_all_their_edges_apart(self):
        row = tuple(((k * 10 ** 11, -MOST + k), ((k + 1) * 10 ** 11 - 1, MOST - k)) for k in range(6))
        self.assertIs(is_shape(row), True)
        self.yes(row, ((0, 5 - MOST), (6 * 10 ** 11 - 1, MOST - 5)))
        self.no(row, ((0, 4 - MOST), (6 * 10 ** 11 - 1, MOST - 5)), (5 * 10 ** 11, 4 - MOST))
        self.no(row, ((0, 5 - MOST), (6 * 10 ** 11 - 1, MOST - 4)), (5 * 10 ** 11, MOST - 4))
        self.no(row, ((0, 5 - MOST), (6 * 10 ** 11, MOST - 5)), (6 * 10 ** 11, 5 - MOST))

    def test_one_box_twice(self):
        self.yes((ONE[0], ONE[0]), ONE[0])
        self.no((ONE[0], ONE[0]), ((0, 0), (10, 0)), (10, 0))


CUT_X = ("cut", 0, 4, ("box", 0), ("box", 1))
CUT_Y = ("cut", 1, 4, ("box", 0), ("box", 1))
WIDE = ((0, 0), (9, 4))
TALL = ((0, 0), (4, 9))
NO_NUMBERS = [None, True, False, "0", "", "box", (), (0,), [0], [], {}, {0: 0}]


class HoldsCover(unittest.TestCase):
    def holds(self, shape, box, thing):
        self.assertIs(unchanged(self, holds_cover, shape, box, thing), True, (shape, box, thing))

    def fails(self, shape, box, thing):
        self.assertIs(unchanged(self, holds_cover, shape, box, thing), False, (shape, box, thing))

    def test_by_a_box(self):
        self.holds(ONE, ONE[0], ("box", 0))
        self.holds(BESIDE, ((5, 1), (9, 1)), ("box", 1))
        self.fails(BESIDE, ((5, 1), (9, 1)), ("box", 0))
        for box in (((-1, 0), (9, 9)), ((0, -1), (9, 9)), ((0, 0), (10, 9)), ((0, 0), (9, 10)), ((20, 20), (20, 20))):
            self.fails(ONE, box, ("box", 0))

    def test_a_box_number_that_is_wrong(self):
        for k in [-1, -2, 2, 3, HUGE, -HUGE] + NO_NUMBERS:
            self.fails(BESIDE, BESIDE[0], ("box", k))
            self.fails(BESIDE, BESIDE[1], ("box", k))
        twice = (ONE[0],) * 6
        for k in range(6):
            self.holds(twice, ONE[0], ("box", k))
        for k in (-1, -6, 6, 7, True, False):
            self.fails(twice, ONE[0], ("box", k))

    def test_by_a_cut(self):
        self.holds(BESIDE, WIDE, CUT_X)
        self.holds(BELOW, TALL, CUT_Y)
        self.fails(BESIDE, ((0, 0), (9, 5)), CUT_X)
        self.fails(BESIDE, ((0, 0), (10, 4)), CUT_X)
        self.fails(BELOW, TALL, CUT_X)
        self.fails(BESIDE, WIDE, CUT_Y)

    def test_a_way_that_is_wrong(self):
        for way in [-1, 2, -2, HUGE] + NO_NUMBERS:
            self.fails(BESIDE, WIDE, ("cut", way) + CUT_X[2:])
            self.fails(BELOW, TALL, ("cut", way) + CUT_Y[2:])
            self.fails(ONE, ONE[0], ("cut", way, 4, ("box", 0), ("box", 0)))

    def test_a_place_of_cutting_that_is_wrong(self):
        for way in (0, 1):
            box = ((2, 3), (6, 5))
            for at in range(box[0][way], box[1][way]):
                self.holds(ONE, box, ("cut", way, at, ("box", 0), ("box", 0)))
            for at in [box[0][way] - 1, box[1][way], box[1][way] + 1, -HUGE, HUGE] + NO_NUMBERS:
                self.fails(ONE, box, ("cut", way, at, ("box", 0), ("box", 0)))
            for at in (True, False, -1, 1, 2):
                self.fails(ONE, ((0, 0), (1, 1)), ("cut", way, at, ("box", 0), ("box", 0)))
            self.holds(ONE, ((0, 0), (1, 1)), ("cut", way, 0, ("box", 0), ("box", 0)))
        for at in (3, 5):
            self.fails(BESIDE, WIDE, ("cut", 0, at, ("box", 0), ("box", 1)))

    def test_one_spot_is_not_cut(self):
        for at in (2, 3, 4):
            self.fails(ONE, ((3, 3), (3, 3)), ("cut", 0, at, ("box", 0), ("box", 0)))
            self.fails(ONE, ((3, 3), (3, 4)), ("cut", 0, at, ("box", 0), ("box", 0)))
            self.fails(ONE, ((3, 3), (4, 3)), ("cut", 1, at, ("box", 0), ("box", 0)))

    def test_first_and_second_exchanged(self):
        self.fails(BESIDE, WIDE, CUT_X[:3] + (("box", 1), ("box", 0)))
        self.fails(BELOW, TALL, CUT_Y[:3] + (("box", 1), ("box", 0)))
        cover = covered(FILLED, ABOUT)[1]
        self.fails(FILLED, ABOUT, cover[:3] + (cover[4], cover[3]))

    def test_each_side_must_hold(self):
        for wrong in ODD_THINGS + [("box", 2), ("box", -1), ("box",)]:
            self.fails(BESIDE, WIDE, ("cut", 0, 4, wrong, ("box", 1)))
            self.fails(BESIDE, WIDE, ("cut", 0, 4, ("box", 0), wrong))

    def test_a_list_for_a_tuple(self):
        self.fails(ONE, ONE[0], ["box", 0])
        self.fails(BESIDE, WIDE, list(CUT_X))
        self.fails(BESIDE, WIDE, ("cut", 0, 4, ["box", 0], ("box", 1)))
        self.fails(BESIDE, WIDE, ("cut", 0, 4, ("box", 0), ["box", 1]))
        self.fails(FILLED, ABOUT, as_lists(covered(FILLED, ABOUT)[1]))

    def test_a_part_more_and_a_part_less(self):
        for wrong in (("box",), ("box", 0, 0), ("box", 0, None), (0,), ("box", 0, 4, ("box", 0), ("box", 0))):
            self.fails(ONE, ONE[0], wrong)
        for k in range(5):
            self.fails(BESIDE, WIDE, CUT_X[:k] + CUT_X[k + 1:])
            self.fails(BESIDE, WIDE, CUT_X[:k] + (CUT_X[k],) + CUT_X[k:])
        self.fails(BESIDE, WIDE, CUT_X + (None,))
        self.fails(ONE, ONE[0], ("cut", 0))

    def test_other_words(self):
        for word in ["", "Box", "BOX", "box ", "cut", "yes", "box\n", None, 0, True, ("box",), ["box"]]:
            self.fails(ONE, ONE[0], (word, 0))
        for word in ["", "Cut", "cut ", "box", "cuts", None, 1, ("cut",), ["cut"]]:
            self.fails(BESIDE, WIDE, (word,) + CUT_X[1:])
        self.fails(ONE, ONE[0], ("yes", ("box", 0)))
        self.fails(BESIDE, WIDE, ("yes", CUT_X))

    def test_whatever_thing(self):
        for thing in ODD_THINGS:
            self.fails(ONE, ONE[0], thing)
            self.fails(ONE, ONE[0], (thing, 0))
            self.fails(ONE, ONE[0], (thing, 0, 4, ("box", 0), ("box", 0)))
            self.fails(ONE, ONE[0], {"box": thing})
        for thing in (deep("box", 29), (deep(0, 29), 0), ("box", deep(0, 29)), ("cut", 0, 4, deep(0, 29), deep(0, 29))):
            self.fails(ONE, ONE[0], thing)

    def test_thirty_deep(self):
        for way in (0, 1):
            good = ("box", 0)
            bad = ("box", 1)
            for at in range(28, -1, -1):
                good = ("cut", way, at, ("box", 0), good)
                bad = ("cut", way, at, ("box", 0), bad)
            self.assertEqual(how_deep(good), 30)
            self.holds((((0, 0), (30, 30)),), ((0, 0), (30, 30)), good)
            self.fails((((0, 0), (30, 30)),), ((0, 0), (30, 30)), bad)
            self.fails((((0, 0), (30, 30)),), ((0, 0), (28, 28)), good)
            self.fails((((0, 0), (30, 30)),), ((1, 1), (30, 30)), good)

    def test_one_within_itself_twice_thirty_deep(self):
        for order in ((0, 1), (0, 0), (1, 1)):
            thing = ("box", 0)
            for k in range(29):
                thing = ("cut", order[k % 2], 10 ** 9 * (k % 7), thing, thing)
            self.assertIs(holds_cover(AT_THE_BOUND, BOUND, thing), False)

    def test_covers_by_another_hand(self):
        chance = random.Random(31)
        many = 0
        for shape in [ONE, BESIDE, BELOW, OVER, FILLED] + random_shapes(32, 120):
            spots = spots_of_shape(shape)
            for _ in range(6):
                box = random_box(chance, -4, 6, 4)
                if set(spots_of_box(box)) <= spots:
                    for keep_cutting in (0, 0.5, 0.9):
                        self.holds(shape, box, other_hand(chance, shape, box, keep_cutting))
                    many += 1
        self.assertGreater(many, 40)

    def test_cut_down_to_the_single_spots(self):
        chance = random.Random(33)
        cover = other_hand(chance, FILLED, ABOUT, 1)
        self.assertGreater(how_deep(cover), 7)
        self.holds(FILLED, ABOUT, cover)

    def test_whatever_is_let_by_is_so(self):
        chance = random.Random(34)
        answers = []
        odd = [None, True, False, -1, 0, 1, 2, 3, 4, 5, 6, "box", "cut", "", (), [], {}, ("box", 0), ("box", 1),
               ("box", 2), ["box", 0], ("box",), HUGE]
        for shape in [BESIDE, OVER, FILLED] + random_shapes(35, 60):
            spots = spots_of_shape(shape)
            for _ in range(4):
                box = random_box(chance, -3, 5, 3)
                if not set(spots_of_box(box)) <= spots:
                    continue
                cover = other_hand(chance, shape, box, 0.4)
                for place in places_in(cover):
                    for part in odd:
                        thing = put_at(cover, place, part)
                        answers.append(self.as_told(shape, box, thing))
                for other in (random_box(chance, -3, 5, 3) for _ in range(6)):
                    answers.append(self.as_told(shape, other, cover))
        self.assertGreater(answers.count(True), 100)
        self.assertGreater(answers.count(False), 1000)

    def as_told(self, shape, box, thing):
        told = holds_cover(shape, box, thing)
        self.assertIs(told, slow_holds(shape, box, thing), (shape, box, thing))
        if told:
            self.assertIsNone(slow_lacking(shape, box))
        return told

    def test_no_cover_of_a_box_that_the_shape_lacks(self):
        chance = random.Random(36)
        cover = other_hand(chance, FILLED, ABOUT, 0.3)
        for shape in (HOLE, FILLED[:5]):
            for _ in range(30):
                self.fails(shape, ABOUT, other_hand(chance, FILLED, ABOUT, 0.3))
        for place in places_in(cover):
            if isinstance(part_at(cover, place), tuple):
                for k in range(-1, 7):
                    self.fails(HOLE, ABOUT, put_at(cover, place, ("box", k)))

    def test_twelve_figures_and_more(self):
        word, cover = covered(WHEEL, BOUND)
        self.assertEqual(word, "yes")
        self.holds(WHEEL, BOUND, cover)
        self.fails(WHEEL, ((-MOST, -MOST), (MOST, BEYOND)), cover)
        self.fails(WHEEL, ((-BEYOND, -MOST), (MOST, MOST)), cover)
        self.fails(WHEEL, ((-HUGE, -HUGE), (HUGE, HUGE)), cover)
        self.fails(WHEEL[:5], BOUND, cover)
        self.holds(AT_THE_BOUND, BOUND, ("cut", 0, MOST - 1, ("box", 0), ("cut", 1, -MOST, ("box", 0), ("box", 0))))
        self.fails(AT_THE_BOUND, BOUND, ("cut", 0, MOST, ("box", 0), ("box", 0)))
        self.fails(AT_THE_BOUND, BOUND, ("cut", 0, -BEYOND, ("box", 0), ("box", 0)))

    def test_where_it_is_cut_is_up_to_the_writer(self):
        shape = (((0, 0), (5, 3)), ((3, 0), (9, 3)))
        for at in range(2, 6):
            self.holds(shape, ((0, 0), (9, 3)), ("cut", 0, at, ("box", 0), ("box", 1)))
        for at in (1, 6):
            self.fails(shape, ((0, 0), (9, 3)), ("cut", 0, at, ("box", 0), ("box", 1)))


if __name__ == "__main__":
    unittest.main()
