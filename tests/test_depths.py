import unittest

from landsentered.boxes import square, steps
from landsentered.depths import depth, nearest, side
from landsentered.shapes import lies_in
from tests.helper import (BEYOND, MOST, random_shapes, slow_depth_and_nearest, spots_of_box, spots_of_shape,
                          unchanged)

FIVE = (((0, 0), (4, 4)),)
BESIDE = (((0, 0), (2, 4)), ((3, 0), (5, 4)))
OVER = (((0, 0), (5, 5)), ((2, 2), (9, 7)), ((2, 2), (3, 3)))
ABOUT_A_HOLE = (((0, 0), (8, 2)), ((6, 0), (8, 8)), ((0, 6), (8, 8)), ((0, 0), (2, 8)))
AT_THE_BOUND = (((-MOST, -MOST), (MOST, MOST)),)
HALVES = (((-MOST, -MOST), (0, MOST)), ((1, -MOST), (MOST, MOST)))


class Depth(unittest.TestCase):
    def test_within_and_at_the_edge(self):
        self.assertEqual(depth(FIVE, (2, 2)), 3)
        self.assertEqual(depth(FIVE, (1, 2)), 2)
        self.assertEqual(depth(FIVE, (0, 2)), 1)
        self.assertEqual(depth(FIVE, (4, 4)), 1)

    def test_just_outside_and_far_off(self):
        self.assertEqual(depth(FIVE, (-1, 2)), -1)
        self.assertEqual(depth(FIVE, (5, 5)), -1)
        self.assertEqual(depth(FIVE, (6, 2)), -2)
        self.assertEqual(depth(FIVE, (2, -1000)), -1000)
        self.assertEqual(depth(FIVE, (MOST, 0)), 4 - MOST)

    def test_in_a_hole(self):
        self.assertEqual(depth(ABOUT_A_HOLE, (4, 4)), -2)
        self.assertEqual(depth(ABOUT_A_HOLE, (3, 4)), -1)
        self.assertEqual(depth(ABOUT_A_HOLE, (1, 4)), 2)
        self.assertEqual(depth(ABOUT_A_HOLE, (2, 2)), 1)
        self.assertEqual(depth(ABOUT_A_HOLE, (2, 4)), 1)

    def test_a_hole_of_one_spot(self):
        shape = (((0, 0), (8, 3)), ((5, 4), (8, 8)), ((0, 5), (8, 8)), ((0, 0), (3, 8)))
        self.assertEqual(depth(shape, (4, 4)), -1)
        self.assertEqual(depth(shape, (5, 4)), 1)
        self.assertEqual(depth(shape, (4, 2)), 2)

    def test_boxes_side_by_side_are_one_land(self):
        self.assertEqual(depth(BESIDE, (2, 2)), 3)
        self.assertEqual(depth(BESIDE, (3, 2)), 3)
        self.assertEqual(depth(BESIDE, (0, 2)), 1)

    def test_boxes_over_one_another(self):
        self.assertEqual(depth(OVER, (3, 3)), 3)
        self.assertEqual(depth(OVER, (4, 4)), 3)
        self.assertEqual(depth(OVER, (5, 5)), 3)

    def test_twelve_figures(self):
        self.assertEqual(depth(AT_THE_BOUND, (0, 0)), BEYOND)
        self.assertEqual(depth(AT_THE_BOUND, (MOST, 0)), 1)
        self.assertEqual(depth(AT_THE_BOUND, (-MOST + 5, 3)), 6)
        self.assertEqual(depth(HALVES, (0, 0)), BEYOND)
        self.assertEqual(depth((((MOST, MOST), (MOST, MOST)),), (-MOST, -MOST)), -2 * MOST)

    def test_against_the_spots_one_by_one(self):
        for shape in [FIVE, BESIDE, OVER, ABOUT_A_HOLE] + random_shapes(11, 60):
            for spot in spots_of_box(((-6, -6), (10, 10))):
                wanted, other = slow_depth_and_nearest(shape, spot, 40)
                self.assertEqual(depth(shape, spot), wanted, (shape, spot))
                self.assertNotEqual(wanted, 0)
                self.assertEqual(nearest(shape, spot), other, (shape, spot))

    def test_greater_shapes_with_room_inside(self):
        for shape in random_shapes(12, 12, most_boxes=4, low=0, high=14, longest=9):
            for spot in sorted(spots_of_shape(shape)):
                self.assertEqual((depth(shape, spot), nearest(shape, spot)), slow_depth_and_nearest(shape, spot, 20))

    def test_moved_far_off_all_is_the_same(self):
        far = MOST - 20
        for shape in random_shapes(13, 20):
            for dx, dy in ((far, far), (-far, far), (-far, -far)):
                there = tuple(((a + dx, b + dy), (c + dx, d + dy)) for (a, b), (c, d) in shape)
                for x, y in ((0, 0), (1, 2), (-3, 4), (6, 6)):
                    self.assertEqual(depth(there, (x + dx, y + dy)), depth(shape, (x, y)))
                    nx, ny = nearest(shape, (x, y))
                    self.assertEqual(nearest(there, (x + dx, y + dy)), (nx + dx, ny + dy))

    def test_nothing_is_changed_and_the_same_is_told_again(self):
        for shape in (FIVE, OVER, ABOUT_A_HOLE):
            for spot in ((0, 0), (3, 3), (-9, 2)):
                unchanged(self, depth, shape, spot)
                unchanged(self, nearest, shape, spot)
                unchanged(self, side, shape, 1, spot)


class Nearest(unittest.TestCase):
    def test_the_least_of_several(self):
        self.assertEqual(nearest(FIVE, (2, 2)), (-1, -1))
        self.assertEqual(nearest(FIVE, (0, 2)), (-1, 1))
        self.assertEqual(nearest(FIVE, (4, 2)), (5, 1))
        self.assertEqual(nearest(FIVE, (2, 4)), (1, 5))
        self.assertEqual(nearest(FIVE, (2, 0)), (1, -1))

    def test_seen_from_outside(self):
        self.assertEqual(nearest(FIVE, (-1, 2)), (0, 1))
        self.assertEqual(nearest(FIVE, (2, 9)), (0, 4))
        self.assertEqual(nearest(FIVE, (7, 2)), (4, 0))
        self.assertEqual(nearest(FIVE, (9, 9)), (4, 4))

    def test_in_a_hole_and_beside_it(self):
        self.assertEqual(nearest(ABOUT_A_HOLE, (4, 4)), (2, 2))
        self.assertEqual(nearest(ABOUT_A_HOLE, (2, 4)), (3, 3))
        self.assertEqual(nearest(ABOUT_A_HOLE, (1, 4)), (-1, 2))

    def test_a_thirteenth_figure_at_the_bound(self):
        self.assertEqual(nearest(AT_THE_BOUND, (MOST, 0)), (BEYOND, -1))
        self.assertEqual(nearest(AT_THE_BOUND, (-MOST, 0)), (-BEYOND, -1))
        self.assertEqual(nearest(AT_THE_BOUND, (7, -MOST)), (6, -BEYOND))
        self.assertEqual(nearest(AT_THE_BOUND, (0, 0)), (-BEYOND, -BEYOND))
        self.assertEqual(nearest(HALVES, (1, MOST)), (0, BEYOND))

    def test_as_far_as_the_depth_and_on_the_other_side(self):
        for shape in (AT_THE_BOUND, HALVES, OVER, ABOUT_A_HOLE):
            for spot in ((0, 0), (MOST, 3), (-MOST, -MOST), (4, 4)):
                other = nearest(shape, spot)
                self.assertEqual(steps(spot, other), abs(depth(shape, spot)))
                self.assertNotEqual(lies_in(shape, spot), lies_in(shape, other))


class Side(unittest.TestCase):
    def test_in_and_between(self):
        self.assertEqual(side(FIVE, 0, (2, 2)), "in")
        self.assertEqual(side(FIVE, 2, (2, 2)), "in")
        self.assertEqual(side(FIVE, 3, (2, 2)), "between")
        self.assertEqual(side(FIVE, 4, (2, 2)), "between")

    def test_out_and_between(self):
        self.assertEqual(side(FIVE, 0, (7, 2)), "out")
        self.assertEqual(side(FIVE, 2, (7, 2)), "out")
        self.assertEqual(side(FIVE, 3, (7, 2)), "between")
        self.assertEqual(side(FIVE, 4, (7, 2)), "between")

    def test_without_wobble_nothing_is_between(self):
        for spot in spots_of_box(((-2, -2), (6, 6))):
            self.assertEqual(side(FIVE, 0, spot), "in" if lies_in(FIVE, spot) else "out")

    def test_wobbles_of_twelve_figures(self):
        self.assertEqual(side(AT_THE_BOUND, MOST, (0, 0)), "in")
        self.assertEqual(side(AT_THE_BOUND, MOST, (1, 0)), "between")
        self.assertEqual(side(FIVE, MOST, (2, 2)), "between")
        self.assertEqual(side(FIVE, MOST, (MOST, 0)), "between")
        self.assertEqual(side((((-2, 0), (-1, 0)),), MOST, (MOST, 0)), "out")
        self.assertEqual(side((((-2, 0), (0, 0)),), MOST, (MOST, 0)), "between")

    def test_by_the_spots_of_the_square(self):
        for shape in [OVER, ABOUT_A_HOLE] + random_shapes(14, 15):
            spots = spots_of_shape(shape)
            for spot in spots_of_box(((-5, -5), (8, 8))):
                for wobble in range(4):
                    there = [s in spots for s in spots_of_box(square(spot, wobble))]
                    wanted = "in" if all(there) else "between" if any(there) else "out"
                    self.assertEqual(side(shape, wobble, spot), wanted, (shape, wobble, spot))

    def test_just_as_far_one_less_and_one_more(self):
        for shape in random_shapes(15, 30):
            for spot in ((0, 0), (2, 1), (-4, 5), (9, 9)):
                far = abs(depth(shape, spot))
                plain = "in" if lies_in(shape, spot) else "out"
                self.assertEqual(side(shape, far - 1, spot), plain)
                self.assertEqual(side(shape, far, spot), "between")
                self.assertEqual(side(shape, far + 1, spot), "between")


if __name__ == "__main__":
    unittest.main()
