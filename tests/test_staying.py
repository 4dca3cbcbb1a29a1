import random
import unittest

from landsentered.history import history
from landsentered.staying import stays
from tests.helper import (BETWEEN, FAR, LAST, OUT, TEN, land, random_worlds, slow_history, slow_stays, spot,
                          unchanged)


class Stays(unittest.TestCase):
    def told(self, wanted, *tellings):
        self.assertEqual(unchanged(self, stays, list(tellings)), wanted)
        self.assertEqual(stays(list(tellings[::-1])), wanted)
        self.assertEqual(stays(list(tellings) * 2), wanted)

    def test_none(self):
        self.told([])
        self.told([], land(0, "wood"))
        self.told([], land(0, "wood"), spot(1, "hare", OUT))

    def test_without_end(self):
        self.told([("hare", "wood", 1, None)], land(0, "wood"), spot(1, "hare"))
        self.told([("hare", "wood", 1, None)], land(0, "wood"), spot(1, "hare"), spot(9, "hare", BETWEEN))

    def test_with_an_end(self):
        self.told([("hare", "wood", 1, 9)], land(0, "wood"), spot(1, "hare"), spot(9, "hare", OUT))
        self.told([("hare", "wood", 0, LAST)], land(0, "wood"), spot(0, "hare"), spot(LAST, "hare", OUT))
        self.told([("hare", "wood", 1, 9)], land(0, "wood"), spot(1, "hare"), ("drop", 9, "wood"))
        self.told([("hare", "wood", 1, 9)], land(0, "wood"), spot(1, "hare"), ("free", 9, "hare"))

    def test_in_the_order_of_their_comings(self):
        self.told([("hare", "wood", 1, 8), ("hare", "a", 1, 8), ("fox", "wood", 2, 3), ("fox", "a", 2, 3),
                   ("owl", "wood", 2, None), ("owl", "a", 2, None)],
                  land(0, "wood"), land(0, "a", "wood"), spot(1, "hare"), spot(2, "fox"), spot(2, "owl"),
                  spot(3, "fox", OUT), spot(8, "hare", OUT))

    def test_the_same_thing_and_land_again(self):
        self.told([("hare", "wood", 1, 2), ("hare", "wood", 5, 7), ("hare", "wood", 8, None)],
                  land(0, "wood"), spot(1, "hare"), spot(2, "hare", OUT), spot(5, "hare"), spot(7, "hare", OUT),
                  spot(8, "hare"))

    def test_ended_at_the_time_at_which_it_began(self):
        # The lands' part brings the hare in, the freeing takes it out, the spot brings it in again.
        self.told([("hare", "wood", 4, 4), ("hare", "wood", 4, 6)],
                  spot(1, "hare"), land(4, "wood"), ("free", 4, "hare"), spot(4, "hare"), spot(6, "hare", OUT))
        self.told([("hare", "wood", 4, 4)], spot(1, "hare"), land(4, "wood"), spot(4, "hare", OUT))
        self.told([("hare", "wood", 4, 4), ("hare", "wood", 4, None)],
                  spot(1, "hare"), land(4, "wood"), ("free", 4, "hare"), spot(4, "hare"))

    def test_freed_and_told_again(self):
        self.told([("hare", "wood", 1, 4), ("hare", "wood", 6, None)],
                  land(0, "wood"), spot(1, "hare"), ("free", 4, "hare"), spot(5, "hare", BETWEEN), spot(6, "hare"))
        self.told([("hare", "wood", 1, 4), ("hare", "wood", 4, None)],
                  land(0, "wood"), spot(1, "hare"), ("free", 4, "hare"), spot(4, "hare"))

    def test_a_land_dropped_and_told_again(self):
        self.told([("hare", "wood", 1, 4), ("hare", "wood", 5, None)],
                  land(0, "wood"), spot(1, "hare"), ("drop", 4, "wood"), land(5, "wood"))
        self.told([("hare", "wood", 1, None)], land(0, "wood"), spot(1, "hare"), land(4, "wood", "", TEN, 0))

    def test_things_and_lands_are_kept_apart(self):
        self.told([("a", "b", 1, 3), ("b", "b", 1, None), ("a", "a", 3, None)],
                  land(0, "b"), land(0, "a", "", FAR), spot(1, "a"), spot(1, "b"), spot(3, "a", (25, 25)))

    def test_against_each_coming_and_the_first_going_behind_it(self):
        chance = random.Random(101)
        at_once = 0
        for world in random_worlds(102, 150):
            wanted = slow_stays(slow_history(world))
            at_once += len([stay for stay in wanted if stay[2] == stay[3]])
            chance.shuffle(world)
            self.assertEqual(unchanged(self, stays, world), wanted)
            self.assertEqual(len(wanted), len([row for row in history(world) if row[2] == "comes"]))
        self.assertGreater(at_once, 3)

    def test_the_told_is_the_askers(self):
        tellings = [land(0, "wood"), spot(1, "hare")]
        stays(tellings).clear()
        self.assertEqual(stays(tellings), [("hare", "wood", 1, None)])
        found = stays(tellings)
        tellings.append(spot(3, "hare", OUT))
        self.assertEqual(found, [("hare", "wood", 1, None)])
        self.assertEqual(stays(tellings), [("hare", "wood", 1, 3)])


if __name__ == "__main__":
    unittest.main()
