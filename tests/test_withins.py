import itertools
import unittest

from landsentered.covers import holds_cover
from landsentered.shapes import is_shape
from landsentered.withins import alike, within
from tests.helper import MOST, how_deep, random_shapes, slow_holds, spots_of_shape, unchanged

FIVE = (((0, 0), (4, 4)),)
IN_TWO = (((0, 0), (1, 4)), ((2, 0), (4, 4)))
IN_ROWS = tuple(((0, k), (4, k)) for k in range(5))
OVER = (((0, 0), (3, 4)), ((1, 0), (4, 4)), ((2, 2), (2, 2)))
HOLE = (((0, 0), (8, 2)), ((6, 0), (8, 8)), ((0, 6), (8, 8)), ((0, 0), (2, 8)))
AT_THE_BOUND = (((-MOST, -MOST), (MOST, MOST)),)
HALVES = (((1, -MOST), (MOST, MOST)), ((-MOST, -MOST), (0, MOST)))


class Within(unittest.TestCase):
    def yes(self, one, other):
        word, covers = unchanged(self, within, one, other)
        self.assertEqual(word, "yes")
        self.assertIsInstance(covers, list)
        self.assertEqual(len(covers), len(one))
        for box, cover in zip(one, covers):
            self.assertIs(holds_cover(other, box, cover), True)
            self.assertLessEqual(how_deep(cover), 30)
        return covers

    def no(self, one, other, spot):
        self.assertEqual(unchanged(self, within, one, other), ("no", spot))

    def test_one_cover_for_each_box_in_order(self):
        self.assertEqual(self.yes(IN_TWO, FIVE), [("box", 0), ("box", 0)])
        self.assertEqual(self.yes(IN_TWO, IN_TWO), [("box", 0), ("box", 1)])
        self.assertEqual(self.yes(IN_TWO, IN_TWO[::-1]), [("box", 1), ("box", 0)])
        self.assertEqual(self.yes(FIVE, IN_TWO), [("cut", 0, 1, ("box", 0), ("box", 1))])
        self.assertEqual(self.yes((FIVE[0], FIVE[0]), FIVE), [("box", 0), ("box", 0)])
        self.assertEqual(len(self.yes(IN_ROWS, OVER)), 5)

    def test_the_least_of_all_that_are_lacking(self):
        wide = (((5, 5), (9, 9)), ((4, 4), (6, 6)), ((-3, 2), (3, 9)))
        self.no(wide, (((0, 0), (9, 9)),), (-3, 2))
        self.no(wide[::-1], (((0, 0), (9, 9)),), (-3, 2))
        self.no(wide, (((-3, 0), (9, 8)),), (-3, 9))
        self.no(wide[:2], (((-3, 0), (9, 8)),), (5, 9))
        self.no((((0, 0), (8, 8)),), HOLE, (3, 3))

    def test_one_spot_alone(self):
        self.yes((((4, 4), (4, 4)),), FIVE)
        self.no((((5, 4), (5, 4)),), FIVE, (5, 4))
        self.no(FIVE, (((4, 4), (4, 4)),), (0, 0))

    def test_at_the_bound(self):
        self.yes(AT_THE_BOUND, HALVES)
        self.yes(HALVES, AT_THE_BOUND)
        self.no(AT_THE_BOUND, (((-MOST, 1 - MOST), (MOST, MOST)),), (-MOST, -MOST))
        self.no(AT_THE_BOUND, (((-MOST, -MOST), (MOST, MOST - 1)),), (-MOST, MOST))
        self.no(AT_THE_BOUND, HALVES[:1], (-MOST, -MOST))
        self.no(AT_THE_BOUND, HALVES[1:], (1, -MOST))

    def test_against_the_spots_one_by_one(self):
        words = []
        shapes = [FIVE, IN_TWO, IN_ROWS, OVER, HOLE] + random_shapes(51, 25, longest=9)
        shapes += random_shapes(52, 25, most_boxes=2, longest=2)
        for one, other in itertools.product(shapes, shapes):
            lacking = spots_of_shape(one) - spots_of_shape(other)
            words.append(not lacking)
            if lacking:
                self.no(one, other, min(lacking))
            else:
                covers = self.yes(one, other)
                self.assertTrue(all(slow_holds(other, box, cover) for box, cover in zip(one, covers)))
            self.assertIs(unchanged(self, alike, one, other), spots_of_shape(one) == spots_of_shape(other))
        self.assertGreater(words.count(True), 100)

    def test_what_is_done_to_the_told_list_changes_no_later_answer(self):
        first = within(IN_TWO, FIVE)
        kept = list(first[1])
        first[1].append("more")
        first[1][0] = None
        self.assertEqual(within(IN_TWO, FIVE), ("yes", kept))
        later = within(IN_TWO, FIVE)
        later[1].clear()
        self.assertEqual(within(IN_TWO, FIVE), ("yes", kept))
        self.assertEqual(first[1], [None, kept[1], "more"])
        self.assertIs(alike(IN_TWO, FIVE), True)


class Alike(unittest.TestCase):
    def test_the_same_spots(self):
        same = [FIVE, IN_TWO, IN_TWO[::-1], IN_ROWS, IN_ROWS[::-1], OVER, FIVE + FIVE, FIVE + IN_TWO, OVER[::-1]]
        for one, other in itertools.product(same, same):
            self.assertIs(is_shape(one), True, one)
            self.assertIs(unchanged(self, alike, one, other), True, (one, other))
        self.assertIs(alike(AT_THE_BOUND, HALVES), True)
        self.assertIs(alike(HOLE, HOLE[1:] + HOLE[:1]), True)

    def test_unlike_ones(self):
        for other in ((((0, 0), (4, 5)),), (((0, 0), (4, 3)),), (((-1, 0), (4, 4)),), (((1, 0), (4, 4)),),
                      IN_ROWS[:4], IN_TWO[:1], FIVE + (((5, 5), (5, 5)),), HOLE, (((20, 20), (24, 24)),)):
            self.assertIs(unchanged(self, alike, FIVE, other), False, other)
            self.assertIs(unchanged(self, alike, other, FIVE), False, other)
        self.assertIs(alike(AT_THE_BOUND, HALVES[:1]), False)

    def test_one_within_the_other_is_not_enough(self):
        filled = HOLE + (((3, 3), (5, 5)),)
        self.assertEqual(within(HOLE, filled)[0], "yes")
        self.assertIs(alike(HOLE, filled), False)
        self.assertIs(alike(filled, HOLE), False)
        self.assertIs(alike(filled, (((0, 0), (8, 8)),)), True)

    def test_so_large_that_no_spot_can_be_counted(self):
        self.assertIs(alike((((0, 0), (MOST, MOST)),), (((0, 0), (MOST, MOST - 1)), ((0, MOST), (MOST, MOST)))), True)
        self.assertIs(alike((((0, 0), (MOST, MOST)),), (((0, 0), (MOST, MOST - 1)), ((0, MOST), (MOST - 1, MOST)))),
                      False)


if __name__ == "__main__":
    unittest.main()
