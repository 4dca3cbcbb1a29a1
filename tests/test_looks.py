import itertools
import random
import unittest

from landsentered.looks import level, looked
from tests.helper import (FAR, FIVE, MOST, TEN, random_worlds, roomy_shape, slow_lands, slow_level, slow_looked,
                          slow_side, unchanged)


def row(name, outer="", shape=TEN, wobble=1):
    return (name, outer, shape, wobble)


def lands_of(*rows):
    return tuple(sorted(rows))


def chain(names):
    """Each land within the one named ahead of it, the first within none."""
    return lands_of(*[row(name, names[k - 1] if k else "") for k, name in enumerate(names)])


class Level(unittest.TestCase):
    def told(self, wanted, lands, name):
        found = unchanged(self, level, lands, name)
        self.assertEqual(found, wanted, (lands, name))
        self.assertNotIsInstance(found, bool)

    def test_without_outer(self):
        self.told(1, lands_of(row("wood")), "wood")
        self.told(1, lands_of(row("wood"), row("moor"), row("glade", "wood")), "moor")

    def test_chains_of_up_to_thirty(self):
        names = ["l" + chr(97 + k) for k in range(15)] + ["a" + chr(97 + k) for k in range(15)]
        for many in (1, 2, 3, 9, 29, 30):
            lands = chain(names[:many])
            for k in range(many):
                self.told(k + 1, lands, names[k])

    def test_chains_in_any_order_of_their_names(self):
        for names in itertools.permutations(["a", "b", "c", "d"]):
            for k, name in enumerate(names):
                self.told(k + 1, chain(names), name)

    def test_several_within_one(self):
        lands = lands_of(row("wood"), row("a", "wood"), row("b", "wood"), row("c", "b"), row("d", "b"))
        for name, wanted in (("wood", 1), ("a", 2), ("b", 2), ("c", 3), ("d", 3)):
            self.told(wanted, lands, name)

    def test_a_land_that_is_not_there(self):
        self.told(None, (), "wood")
        self.told(None, lands_of(row("moor")), "wood")
        self.told(None, lands_of(row("moor")), "moo")
        self.told(None, lands_of(row("glade", "wood")), "wood")
        self.told(None, lands_of(row("moor")), "")
        self.told(None, (), "")

    def test_an_outer_that_is_not_there(self):
        lands = lands_of(row("moor"), row("glade", "wood"))
        self.told(None, lands, "glade")
        self.told(1, lands, "moor")

    def test_a_way_through_one_that_is_not_there(self):
        lands = lands_of(row("c", "b"), row("b", "a"), row("a", "gone"), row("d", "c"), row("moor"))
        for name in "abcd":
            self.told(None, lands, name)
        self.told(1, lands, "moor")
        lands = chain(["a", "b", "c", "d"])
        self.told(None, lands[:1] + lands[2:], "d")
        self.told(None, lands[:1] + lands[2:], "c")
        self.told(1, lands[:1] + lands[2:], "a")

    def test_its_own_outer(self):
        lands = lands_of(row("a", "a"), row("b", "a"), row("c"))
        self.told(None, lands, "a")
        self.told(None, lands, "b")
        self.told(1, lands, "c")

    def test_two_that_name_each_other(self):
        lands = lands_of(row("a", "b"), row("b", "a"))
        self.told(None, lands, "a")
        self.told(None, lands, "b")

    def test_rings_and_ways_into_them(self):
        names = ["r" + chr(97 + k) for k in range(12)]
        ring = [row(name, names[k - 1]) for k, name in enumerate(names)]
        lands = lands_of(row("into", "ra"), row("farther", "into"), row("moor"), row("glade", "moor"), *ring)
        for name in names + ["into", "farther"]:
            self.told(None, lands, name)
        self.told(1, lands, "moor")
        self.told(2, lands, "glade")

    def test_against_the_words_in_any_woods(self):
        chance = random.Random(71)
        for _ in range(300):
            names = [chr(97 + k) for k in range(chance.randint(1, 8))]
            lands = lands_of(*[row(name, chance.choice(names + ["", "", "gone"])) for name in names])
            for name in names + ["gone", "nowhere"]:
                self.told(slow_level(lands, name), lands, name)


class Looked(unittest.TestCase):
    def told(self, wanted, lands, held, spot):
        self.assertEqual(unchanged(self, looked, lands, held, spot), wanted, (lands, held, spot))

    def test_no_lands(self):
        self.told([], (), [], (3, 3))
        self.told([], (), ["wood", "moor"], (3, 3))

    def test_sides_by_each_wobble(self):
        # Of (1, 5) the depth is 2, of (-2, 5) it is -2.
        for wobble, within in ((0, True), (1, True), (2, False), (3, False), (MOST, False)):
            lands = lands_of(row("wood", "", TEN, wobble))
            self.told(["wood"] if within else [], lands, [], (1, 5))
            self.told(["wood"], lands, ["wood"], (1, 5))
        for wobble, out in ((0, True), (1, True), (2, False), (3, False), (MOST, False)):
            lands = lands_of(row("wood", "", TEN, wobble))
            self.told([], lands, [], (-2, 5))
            self.told([] if out else ["wood"], lands, ["wood"], (-2, 5))

    def test_spot_by_spot(self):
        for wobble in (0, 1, 2, 3):
            lands = lands_of(row("wood", "", FIVE, wobble))
            for x in range(-5, 11):
                found = slow_side(FIVE, wobble, (x, 2))
                self.told(["wood"] if found == "in" else [], lands, [], (x, 2))
                self.told([] if found == "out" else ["wood"], lands, ["wood"], (x, 2))

    def test_between_held_in_another_land(self):
        lands = lands_of(row("wood"), row("moor"))
        self.told(["moor"], lands, ["moor"], (0, 5))
        self.told(["wood"], lands, ["wood"], (0, 5))
        self.told(["moor", "wood"], lands, ["wood", "moor"], (0, 5))
        self.told([], lands, ["other", "woo", "woods"], (0, 5))

    def test_held_ones_that_are_not_there(self):
        self.told(["moor"], lands_of(row("moor")), ["wood", "moor"], (0, 5))
        self.told([], lands_of(row("moor", "wood")), ["wood", "moor"], (5, 5))
        self.told([], (), ["wood"], (5, 5))

    def test_held_but_not_in_the_outer_by_this_look(self):
        lands = lands_of(row("glade", "wood"), row("wood", "", FIVE))
        self.told(["glade", "wood"], lands, ["glade", "wood"], (3, 3))
        self.told([], lands, ["glade", "wood"], (8, 8))
        self.told([], lands, ["glade"], (5, 5))
        self.told(["glade", "wood"], lands, ["wood"], (5, 5))

    def test_three_deep_the_outermost_left(self):
        lands = lands_of(row("a", "b"), row("b", "c"), row("c", "", FIVE))
        self.told(["a", "b", "c"], lands, [], (3, 3))
        self.told(["a", "b", "c"], lands, ["c"], (6, 3))
        self.told([], lands, ["a", "b"], (6, 3))
        self.told([], lands, ["a", "b", "c"], (7, 3))

    def test_a_middle_one_left(self):
        lands = lands_of(row("c", ""), row("b", "c", FIVE), row("a", "b"))
        self.told(["c"], lands, ["a", "b", "c"], (8, 8))
        self.told(["c"], lands, ["a"], (8, 8))

    def test_an_inner_shape_outside_the_outer_one(self):
        lands = lands_of(row("wood", "", FIVE), row("isle", "wood", FAR))
        self.told([], lands, [], (25, 25))
        self.told([], lands, ["isle", "wood"], (25, 25))
        self.told(["wood"], lands, ["isle", "wood"], (3, 3))
        partly = lands_of(row("wood", "", FIVE, 0), row("isle", "wood", TEN, 0))
        self.told([], partly, ["isle", "wood"], (6, 6))
        self.told(["isle", "wood"], partly, [], (5, 5))

    def test_lands_without_a_level(self):
        lands = lands_of(row("own", "own"), row("a", "b"), row("b", "a"), row("into", "a"), row("lost", "gone"),
                         row("farther", "lost"), row("moor"))
        names = [land[0] for land in lands]
        self.told(["moor"], lands, [], (5, 5))
        self.told(["moor"], lands, names, (5, 5))
        self.told(["moor"], lands, names + ["gone"], (5, 5))

    def test_the_list_rises(self):
        for names in itertools.permutations(["m", "b", "x", "a"]):
            self.told(["a", "b", "m", "x"], chain(names), [], (5, 5))
            self.told(["a", "b", "m", "x"], chain(names), list(names), (0, 5))

    def test_each_once_however_often_held(self):
        self.told(["wood"], lands_of(row("wood")), ["wood", "wood", "moor", "wood"], (0, 5))
        self.told(["wood"], lands_of(row("wood")), ["wood", "wood"], (5, 5))

    def test_at_the_bounds(self):
        all_spots = (((-MOST, -MOST), (MOST, MOST)),)
        lands = lands_of(row("world", "", all_spots, 0), row("inner", "world", all_spots, 1))
        self.told(["inner", "world"], lands, [], (0, 0))
        self.told(["world"], lands, [], (MOST, -MOST))
        self.told(["inner", "world"], lands, ["inner"], (MOST, -MOST))
        self.told([], lands_of(row("world", "", FIVE, MOST)), [], (-MOST, 0))
        self.told(["world"], lands_of(row("world", "", FIVE, MOST)), ["world"], (-MOST, 0))
        self.told([], lands_of(row("world", "", FAR, MOST)), ["world"], (-MOST, 0))

    def test_twenty_lands(self):
        names = ["l" + chr(97 + k) for k in range(20)]
        self.told(sorted(names), chain(names), [], (5, 5))
        self.told(sorted(names), chain(names[::-1]), [], (5, 5))
        self.told(sorted(names[:13]), tuple(sorted(list(chain(names[:13])) + [row(names[13], names[12], FAR)]
                                                   + [row(names[k], names[k - 1]) for k in range(14, 20)])), names, (5, 5))

    def test_the_only_lands_that_the_words_fit(self):
        """Of all choices of lands just one fits the words of the document: the told one."""
        chance = random.Random(72)
        for _ in range(120):
            names = [chr(97 + k) for k in range(chance.randint(1, 5))]
            lands = lands_of(*[row(name, chance.choice(names + ["", "", "gone"]), roomy_shape(chance),
                                   chance.randint(0, 2)) for name in names])
            held = [name for name in names + ["gone"] if chance.random() < 0.5]
            spot = (chance.randint(-2, 6), chance.randint(-2, 6))
            fitting = []
            for k in range(2 ** len(names)):
                some = [name for n, name in enumerate(names) if k >> n & 1]
                if all((land[0] in some) == self.fits(lands, land, some, held, spot) for land in lands):
                    fitting.append(some)
            self.assertEqual(fitting, [unchanged(self, looked, lands, held, spot)])

    def fits(self, lands, land, some, held, spot):
        found = slow_side(land[2], land[3], spot)
        return (slow_level(lands, land[0]) is not None and (land[1] == "" or land[1] in some)
                and (found == "in" or found == "between" and land[0] in held))

    def test_against_the_words_land_by_land(self):
        chance = random.Random(73)
        for world in random_worlds(74, 60):
            lands = slow_lands(world, lambda time: True)
            names = [land[0] for land in lands]
            for _ in range(10):
                held = [name for name in names + ["gone"] if chance.random() < 0.5]
                chance.shuffle(held)
                spot = (chance.randint(-3, 7), chance.randint(-3, 7))
                found = unchanged(self, looked, lands, held, spot)
                self.assertEqual(found, slow_looked(lands, held, spot))
                self.assertEqual(looked(lands, found, spot), found)

    def test_held_stays_and_the_told_list_is_the_askers(self):
        lands = lands_of(row("wood"), row("moor"))
        held = ["wood", "moor"]
        first = looked(lands, held, (0, 5))
        self.assertEqual(first, ["moor", "wood"])
        first.clear()
        self.assertEqual(held, ["wood", "moor"])
        self.assertEqual(looked(lands, held, (0, 5)), ["moor", "wood"])
        told = looked(lands, held, (0, 5))
        held.clear()
        self.assertEqual(told, ["moor", "wood"])
        self.assertEqual(looked(lands, held, (0, 5)), [])


if __name__ == "__main__":
    unittest.main()
