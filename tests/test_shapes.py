import unittest

from landsentered import errors
from landsentered.errors import LandError, NoShape
from landsentered.shapes import is_shape, lies_in, shape_of, size
from tests.helper import (BEYOND, HUGE, MOST, ODD_THINGS, as_lists, random_shapes, spots_of_box, spots_of_shape,
                          unchanged)

OTHER_ERRORS = (errors.NoTelling, errors.NoTime, errors.NoWatch, errors.TooMany, errors.NoTurn, errors.Clash,
                errors.NoText, errors.NoRow, errors.NoName, errors.NoLand)
ONE = (((0, 0), (3, 2)),)
ROW_OF_SIX = tuple(((2 * k, 0), (2 * k + 1, 1)) for k in range(6))
CORNERS = (((0, 0), (1, 1)), ((2, 2), (3, 3)), ((4, -1), (9, 1)))
ABOUT_A_HOLE = (((0, 0), (4, 0)), ((4, 0), (4, 4)), ((0, 4), (4, 4)), ((0, 0), (0, 4)))
AT_THE_BOUND = (((-MOST, -MOST), (MOST, MOST)),)
GOOD = [ONE, ROW_OF_SIX, CORNERS, ABOUT_A_HOLE, AT_THE_BOUND, (((5, 5), (5, 5)),),
        (((0, 0), (2, 2)), ((0, 0), (2, 2))), (((0, 0), (0, 0)), ((-1, -1), (-1, -1)))]

# Tuples that come near a shape: wrong for shape_of, and wrong for is_shape, for the same cause.
BAD = [
    (),
    ROW_OF_SIX + (((12, 0), (13, 1)),),
    (ONE[0],) * 7,
    (((0, 0), (1, 1)), ((3, 0), (4, 1))),
    (((0, 0), (1, 1)), ((0, 3), (1, 4))),
    (((0, 0), (1, 1)), ((3, 3), (4, 4))),
    (((0, 0), (1, 1)), ((2, 3), (4, 4))),
    (((0, 0), (1, 1)), ((5, 0), (6, 1)), ((2, 0), (4, 1))),
    (((0, 0), (1, 1)), ((2, 0), (3, 1)), ((-1, 0), (-1, 1))),
    (((1, 0), (0, 0)),),
    (((0, 1), (0, 0)),),
    (((0, 0), (1, 1)), ((2, 2), (1, 3))),
    (((0, 0), (BEYOND, 0)),),
    (((0, 0), (0, BEYOND)),),
    (((-BEYOND, 0), (0, 0)),),
    (((0, -BEYOND), (0, 0)),),
    (((0, 0), (HUGE, HUGE)),),
    (((0, 0), (True, 1)),),
    (((False, 0), (1, 1)),),
    (((0, False), (1, 1)),),
    (((0, 0), (1, True)),),
    (((0, 0), (1, 1)), ((0, 0), (1, True))),
    ((0, 0), (1, 1)),
    ((),),
    (((0, 0),),),
    (((0, 0), (1, 1), (2, 2)),),
    (((0,), (1, 1)),),
    (((0, 0), (1,)),),
    (((0, 0, 0), (1, 1)),),
    (((0, 0), (1, 1, 1)),),
    (((), ()),),
    ((0, 0, 1, 1),),
    (((0, None), (1, 1)),),
    (((0, 0), ("1", 1)),),
    (((0, 0), "11"),),
    (("00", "11"),),
    ("abcd",),
    ({(0, 0): 0, (1, 1): 1},),
    (((0, 0), {1: 1, 2: 2}),),
    (((0, 0), None),),
    (ONE[0], None),
    (None,),
]


class ShapeOf(unittest.TestCase):
    def refused(self, thing):
        for _ in range(2):
            with self.assertRaises(NoShape) as caught:
                shape_of(thing)
            self.assertIsInstance(caught.exception, LandError)
            self.assertIsInstance(caught.exception, ValueError)
            self.assertNotIsInstance(caught.exception, OTHER_ERRORS)

    def test_tuples_and_lists_all_through(self):
        for shape in GOOD:
            for things in (shape, list(shape), as_lists(shape), tuple(as_lists(shape)),
                           [list(box) for box in shape], [tuple(map(list, box)) for box in shape],
                           tuple([low, list(high)] for low, high in shape)):
                told = unchanged(self, shape_of, things)
                self.assertEqual(told, shape)
                self.assertIs(is_shape(told), True)

    def test_what_is_told_stays_when_the_lists_change(self):
        things = [[[0, 0], [1, 1]], [[2, 0], [3, 1]]]
        told = shape_of(things)
        things[0][0][0] = 99
        things[1].append(5)
        things.pop()
        self.assertEqual(told, (((0, 0), (1, 1)), ((2, 0), (3, 1))))

    def test_order_and_boxes_met_twice_are_kept(self):
        shape = (((5, 5), (6, 6)), ((0, 0), (5, 5)), ((5, 5), (6, 6)))
        self.assertEqual(shape_of(shape), shape)

    def test_just_one_step_away(self):
        for other in (((2, 0), (3, 1)), ((0, 2), (1, 3)), ((2, 2), (3, 3)), ((-2, -2), (-1, -1)), ((-1, 2), (-1, 2)),
                      ((2, -1), (2, -1))):
            shape = (((0, 0), (1, 1)), other)
            self.assertEqual(shape_of(shape), shape)

    def test_only_the_box_just_ahead_counts(self):
        self.refused([((0, 0), (9, 9)), ((10, 0), (11, 0)), ((0, 5), (1, 5))])

    def test_refused(self):
        for thing in BAD:
            self.refused(thing)
            self.refused(list(thing))
            self.refused(as_lists(thing))

    def test_refused_of_other_kinds(self):
        for thing in ODD_THINGS + [{((0, 0), (1, 1)): 1}, {0: ((0, 0), (1, 1))}]:
            self.refused(thing)
            self.refused((thing,))
            self.refused([ONE[0], thing])
            if thing != [1, 2]:
                self.refused([((0, 0), thing)])
                self.refused([(thing, (MOST, MOST))])
        self.refused([ONE[0]] * 300)

    def test_whatever_it_is_as_a_number(self):
        for thing in ODD_THINGS:
            if isinstance(thing, int) and not isinstance(thing, bool) and abs(thing) <= MOST:
                self.assertEqual(shape_of([[[thing, 0], [9, 9]]]), (((thing, 0), (9, 9)),))
            else:
                self.refused([[[thing, 0], [MOST, MOST]]])
                self.refused([[[0, 0], [9, thing]]])

    def test_refused_things_stay_as_they_were(self):
        things = [[[0, 0], [1, 1]], [[3, 0], [4, True]]]
        self.refused(things)
        self.assertEqual(things, [[[0, 0], [1, 1]], [[3, 0], [4, True]]])
        self.assertIs(things[1][1][1], True)


class IsShape(unittest.TestCase):
    def test_shapes(self):
        for shape in GOOD:
            self.assertIs(unchanged(self, is_shape, shape), True, shape)

    def test_near_shapes(self):
        for thing in BAD:
            self.assertIs(unchanged(self, is_shape, thing), False, thing)

    def test_list_for_tuple(self):
        for thing in ([((0, 0), (1, 1))], ([(0, 0), (1, 1)],), (([0, 0], (1, 1)),), (((0, 0), [1, 1]),),
                      (ONE[0], [(0, 0), (1, 1)]), [[[0, 0], [1, 1]]]):
            self.assertIs(is_shape(thing), False, thing)

    def test_whatever_thing(self):
        for thing in ODD_THINGS:
            self.assertIs(unchanged(self, is_shape, thing), False, thing)
            self.assertIs(is_shape((thing,)), False, thing)
            self.assertIs(is_shape((ONE[0], thing)), False, thing)
            self.assertIs(is_shape(((thing, (1, 1)),)), False, thing)


class LiesIn(unittest.TestCase):
    def test_against_the_spots_one_by_one(self):
        for shape in [ONE, CORNERS, ABOUT_A_HOLE] + random_shapes(5, 20):
            spots = spots_of_shape(shape)
            for spot in spots_of_box(((-6, -6), (12, 12))):
                self.assertIs(lies_in(shape, spot), spot in spots, (shape, spot))

    def test_any_spot(self):
        for spot in ((HUGE, 0), (0, HUGE), (-HUGE, -HUGE), (BEYOND, 0), (0, -BEYOND)):
            self.assertIs(unchanged(self, lies_in, AT_THE_BOUND, spot), False)
        self.assertIs(lies_in(AT_THE_BOUND, (MOST, -MOST)), True)


class Size(unittest.TestCase):
    def test_one_box(self):
        self.assertEqual(size(ONE), 12)
        self.assertEqual(size((((5, 5), (5, 5)),)), 1)

    def test_each_spot_counts_once(self):
        self.assertEqual(size((((0, 0), (2, 2)), ((0, 0), (2, 2)))), 9)
        self.assertEqual(size((((0, 0), (2, 2)), ((1, 1), (3, 3)))), 14)
        self.assertEqual(size((((1, 1), (1, 1)), ((0, 0), (2, 2)))), 9)
        self.assertEqual(size((((0, 1), (2, 1)), ((1, 0), (1, 2)))), 5)
        self.assertEqual(size(ROW_OF_SIX), 24)

    def test_about_a_hole(self):
        self.assertEqual(size(ABOUT_A_HOLE), 16)

    def test_twelve_figures(self):
        self.assertEqual(size(AT_THE_BOUND), (2 * MOST + 1) ** 2)
        cross = (((-MOST, 0), (MOST, 0)), ((0, -MOST), (0, MOST)))
        self.assertEqual(size(cross), 4 * MOST + 1)
        self.assertEqual(size(AT_THE_BOUND + cross), (2 * MOST + 1) ** 2)

    def test_against_the_spots_one_by_one(self):
        for shape in random_shapes(6, 150):
            self.assertEqual(unchanged(self, size, shape), len(spots_of_shape(shape)), shape)


if __name__ == "__main__":
    unittest.main()
