import itertools
import random
import unittest

from landsentered.tellings import in_order, is_name, is_telling, is_time
from tests.helper import (BEYOND, HUGE, MOST, NAMES, NO_NAMES, NO_TEXTS, NO_TIMES, ODD_THINGS, TIMES, as_lists, deep,
                          places_in, put_at, unchanged, whole)

SHAPE = (((0, 0), (4, 4)), ((5, 0), (9, 4)))
LAND = ("land", 5, "wood", "", SHAPE, 2)
INNER = ("land", 0, "glade", "wood", (((1, 1), (2, 2)),), 0)
DROP = ("drop", 7, "wood")
FREE = ("free", 10 ** 12, "hare")
SPOT = ("spot", 3, "hare", (2, -3))
GOOD = [LAND, INNER, DROP, FREE, SPOT]

class IsName(unittest.TestCase):
    def test_one_to_eight_small_letters(self):
        for name in NAMES + list("abcdefghijklmnopqrstuvwxyz"):
            self.assertIs(unchanged(self, is_name, name), True, name)

    def test_no_names(self):
        for thing in NO_NAMES + NO_TEXTS:
            self.assertIs(unchanged(self, is_name, thing), False, thing)

    def test_each_sign_at_each_place(self):
        signs = [chr(k) for k in range(32, 127)] + ["\n"]
        for sign in signs:
            wanted = sign in "abcdefghijklmnopqrstuvwxyz"
            for name in (sign, sign + "bc", "b" + sign + "c", "bc" + sign, "abcdefg" + sign):
                self.assertIs(is_name(name), wanted, name)

    def test_by_length(self):
        for many in range(12):
            self.assertIs(is_name("q" * many), 1 <= many <= 8, many)

    def test_whatever_thing(self):
        for thing in ODD_THINGS:
            self.assertIs(unchanged(self, is_name, thing), thing in ("a", "ab"), thing)


class IsTime(unittest.TestCase):
    def test_times(self):
        for time in TIMES:
            self.assertIs(unchanged(self, is_time, time), True, time)

    def test_no_times(self):
        for thing in NO_TIMES:
            self.assertIs(unchanged(self, is_time, thing), False, thing)

    def test_whatever_thing(self):
        for thing in ODD_THINGS:
            self.assertIs(is_time(thing), whole(thing) and thing in (0, 1), thing)


class IsTelling(unittest.TestCase):
    def good(self, thing):
        self.assertIs(unchanged(self, is_telling, thing), True, thing)

    def bad(self, thing):
        self.assertIs(unchanged(self, is_telling, thing), False, thing)

    def test_one_of_each_word(self):
        for telling in GOOD:
            self.good(telling)

    def test_time_of_each_word(self):
        for telling in GOOD:
            for time in TIMES:
                self.good(put_at(telling, (1,), time))
            for thing in NO_TIMES:
                self.bad(put_at(telling, (1,), thing))

    def test_name_of_each_word(self):
        for telling in GOOD:
            for name in NAMES:
                self.good(put_at(telling, (2,), name))
            for thing in NO_NAMES + NO_TEXTS:
                self.bad(put_at(telling, (2,), thing))

    def test_outer(self):
        for name in NAMES + ["", "wood"]:
            self.good(put_at(LAND, (3,), name))
        for thing in NO_NAMES + NO_TEXTS:
            if thing != "":
                self.bad(put_at(LAND, (3,), thing))

    def test_shape(self):
        box = SHAPE[0]
        for shape in (SHAPE, (box,), (box,) * 6, (((-MOST, -MOST), (MOST, MOST)),)):
            self.good(put_at(LAND, (4,), shape))
        for thing in ODD_THINGS + [box, [box], ([(0, 0), (4, 4)],), (([0, 0], [4, 4]),), (box,) * 7,
                                   (box, ((6, 0), (7, 0))), (((1, 0), (0, 0)),), (((0, 0), (BEYOND, 0)),),
                                   (((0, False), (4, 4)),), (((0, 0), (4, True)),), as_lists(SHAPE)]:
            self.bad(put_at(LAND, (4,), thing))

    def test_wobble(self):
        for wobble in (0, 1, MOST):
            self.good(put_at(LAND, (5,), wobble))
        for thing in (BEYOND, HUGE, -1, -MOST, -BEYOND, True, False, None, "", "2", (2,), [2], {}, deep(2, 29)):
            self.bad(put_at(LAND, (5,), thing))

    def test_spot(self):
        for spot in ((0, 0), (MOST, -MOST), (-MOST, MOST)):
            self.good(put_at(SPOT, (3,), spot))
        for thing in ODD_THINGS + [[2, -3], (BEYOND, 0), (0, BEYOND), (-BEYOND, 0), (0, -BEYOND), (True, 0), (0, False),
                                   (2,), (2, 3, 4), ("2", 3), "2,-3", ((2, 3), (2, 3))]:
            self.bad(put_at(SPOT, (3,), thing))

    def test_word(self):
        for telling in GOOD:
            for word in ["", "Land", "lands", "drop ", "spots", "frees", "wait", "\nspot", None, True, 0, ("land",),
                         ["spot"], {"drop": 1}, deep("free", 29)]:
                self.bad(put_at(telling, (0,), word))

    def test_another_words_parts(self):
        for word in ("drop", "free", "spot"):
            self.bad((word,) + LAND[1:])
        for word in ("land", "drop", "free"):
            self.bad((word,) + SPOT[1:])
        for word in ("land", "spot"):
            self.bad((word,) + DROP[1:])
        self.good(("free",) + DROP[1:])
        self.good(("drop",) + FREE[1:])

    def test_a_part_more_and_a_part_less(self):
        for telling in GOOD:
            for more in (None, 0, "", "a", (), (0, 0), telling[-1]):
                self.bad(telling + (more,))
                self.bad((more,) + telling)
            for k in range(len(telling)):
                self.bad(telling[:k] + telling[k + 1:])
                self.bad(telling[:k])

    def test_a_list_for_a_tuple(self):
        for telling in GOOD:
            self.bad(list(telling))
            self.bad(as_lists(telling))
            for place in places_in(telling):
                part = telling
                for k in place:
                    part = part[k]
                if isinstance(part, tuple):
                    self.bad(put_at(telling, place, list(part)))

    def test_whatever_thing(self):
        for thing in ODD_THINGS:
            self.bad(thing)
            self.bad((thing, 5, "wood"))
            self.bad({"spot": thing})
        for telling in GOOD:
            self.bad((telling,))
            self.bad([telling])
            self.bad(" ".join(map(str, telling)))

    def test_whatever_thing_in_each_place(self):
        for telling in GOOD:
            for place in places_in(telling):
                for thing in (None, True, False, HUGE, "1", "A", (), [], {}, deep(0, 20)):
                    self.bad(put_at(telling, place, thing))


def slow_in_order(tellings):
    """By the words of the document, one telling against all others."""
    told = []
    for time in sorted({t[1] for t in tellings}):
        for words in (("land", "drop"), ("free",), ("spot",)):
            there = [t for t in tellings if t[1] == time and t[0] in words]
            for name in sorted({t[2] for t in there}):
                told.append(min(t for t in there if t[2] == name))
    return told


def land(time, name, outer="", shape=SHAPE, wobble=0):
    return ("land", time, name, outer, shape, wobble)


def spot(time, name, x=0, y=0):
    return ("spot", time, name, (x, y))


def random_telling(chance, last):
    word = chance.choice(["land", "drop", "free", "spot"])
    time = chance.randint(0, last)
    name = chance.choice(["a", "b", "ba", "c", "wood"])
    if word == "land":
        return land(time, name, chance.choice(["", "a", "c"]), chance.choice([SHAPE, SHAPE[:1], SHAPE[1:]]),
                    chance.randint(0, 2))
    if word == "spot":
        return spot(time, name, chance.randint(-1, 1), chance.randint(-1, 1))
    return (word, time, name)


class InOrder(unittest.TestCase):
    def told(self, wanted, *tellings):
        """In any order of few ones, and in some of many, the same is told."""
        orders = itertools.permutations(tellings) if len(tellings) < 6 else [tellings, tellings[::-1]]
        for some in orders:
            self.assertEqual(unchanged(self, in_order, list(some)), wanted)

    def test_none(self):
        self.told([])

    def test_by_time(self):
        self.told([spot(2, "b"), spot(9, "a"), spot(10, "a"), spot(10 ** 12, "a")],
                  spot(10, "a"), spot(10 ** 12, "a"), spot(2, "b"), spot(9, "a"))
        self.told([spot(0, "z"), ("free", 1, "z"), land(2, "a")], land(2, "a"), spot(0, "z"), ("free", 1, "z"))

    def test_at_one_time_lands_then_freeings_then_spots(self):
        self.told([land(4, "z"), ("free", 4, "m"), spot(4, "a")], spot(4, "a"), ("free", 4, "m"), land(4, "z"))
        self.told([("drop", 4, "z"), ("free", 4, "m"), spot(4, "a")], spot(4, "a"), ("free", 4, "m"), ("drop", 4, "z"))

    def test_lands_by_name_whatever_the_word(self):
        self.told([land(4, "a"), ("drop", 4, "b"), land(4, "c"), ("drop", 4, "d")],
                  ("drop", 4, "b"), ("drop", 4, "d"), land(4, "c"), land(4, "a"))

    def test_freeings_and_spots_by_name(self):
        self.told([("free", 4, "a"), ("free", 4, "aa"), ("free", 4, "b")], ("free", 4, "b"), ("free", 4, "aa"),
                  ("free", 4, "a"))
        self.told([spot(4, "a", 9), spot(4, "aa", 5), spot(4, "b", 1)], spot(4, "b", 1), spot(4, "aa", 5),
                  spot(4, "a", 9))

    def test_a_drop_beside_a_land(self):
        self.told([("drop", 4, "a")], land(4, "a"), ("drop", 4, "a"))
        self.told([("drop", 4, "a"), land(5, "a")], land(4, "a"), ("drop", 4, "a"), land(5, "a"))

    def test_outers_that_differ(self):
        self.told([land(4, "a", "", SHAPE, 9)], land(4, "a", "", SHAPE, 9), land(4, "a", "b", SHAPE[:1], 0),
                  land(4, "a", "c"))
        self.told([land(4, "a", "b")], land(4, "a", "b"), land(4, "a", "ba"))

    def test_shapes_that_differ(self):
        lesser = (((-1, 0), (4, 4)),)
        self.told([land(4, "a", "", lesser, 9)], land(4, "a", "", lesser, 9), land(4, "a", "", SHAPE, 0))
        self.told([land(4, "a", "", SHAPE[:1], 9)], land(4, "a", "", SHAPE[:1], 9), land(4, "a", "", SHAPE, 0))

    def test_wobbles_that_differ(self):
        self.told([land(4, "a", "b", SHAPE, 2)], land(4, "a", "b", SHAPE, 10), land(4, "a", "b", SHAPE, 2))

    def test_spots_of_one_thing(self):
        self.told([spot(4, "a", -1, 9)], spot(4, "a", -1, 9), spot(4, "a", 0, -9), spot(4, "a", 2, 2))
        self.told([spot(4, "a", 1, -2)], spot(4, "a", 1, 3), spot(4, "a", 1, -2))
        self.told([spot(4, "a", 1), spot(4, "b", 0)], spot(4, "a", 1), spot(4, "b", 0))
        self.told([spot(4, "a", 3), spot(5, "a", 0)], spot(4, "a", 3), spot(5, "a", 0))

    def test_alike_ones_once(self):
        for telling in GOOD:
            self.told([telling], telling, telling, telling)
        self.told([("free", 4, "a"), spot(4, "a")], spot(4, "a"), ("free", 4, "a"), spot(4, "a"), ("free", 4, "a"))

    def test_a_thing_and_a_land_called_alike(self):
        self.told([land(4, "a"), ("free", 4, "a"), spot(4, "a")], spot(4, "a"), land(4, "a"), ("free", 4, "a"))
        self.told([("drop", 4, "a"), ("free", 4, "a"), spot(4, "a")], ("free", 4, "a"), spot(4, "a"), ("drop", 4, "a"),
                  land(4, "a"))

    def test_against_each_other_one_by_one_in_any_order(self):
        chance = random.Random(61)
        for _ in range(150):
            tellings = [random_telling(chance, chance.choice([0, 1, 3])) for _ in range(chance.randint(0, 40))]
            wanted = slow_in_order(tellings)
            for _ in range(3):
                chance.shuffle(tellings)
                self.assertEqual(unchanged(self, in_order, tellings), wanted)
            self.assertEqual(in_order(tellings + tellings[:9]), wanted)
            self.assertEqual(in_order(wanted), wanted)

    def test_three_hundred(self):
        chance = random.Random(62)
        for last in (0, 5, 10 ** 12):
            tellings = [random_telling(chance, last) for _ in range(300)]
            self.assertTrue(all(is_telling(telling) for telling in tellings))
            wanted = slow_in_order(tellings)
            self.assertEqual(unchanged(self, in_order, tellings), wanted)
            self.assertEqual(in_order(tellings[::-1]), wanted)

    def test_the_list_handed_in_stays_and_the_told_one_is_the_askers(self):
        tellings = [spot(9, "b"), spot(2, "b"), land(2, "a")]
        first = in_order(tellings)
        self.assertEqual(tellings, [spot(9, "b"), spot(2, "b"), land(2, "a")])
        self.assertIsNot(first, tellings)
        first.pop()
        first.append(None)
        self.assertEqual(in_order(tellings), [land(2, "a"), spot(2, "b"), spot(9, "b")])
        alone = [spot(9, "b")]
        in_order(alone).clear()
        self.assertEqual(alone, [spot(9, "b")])
        told = in_order(alone)
        alone.clear()
        self.assertEqual(told, [spot(9, "b")])


if __name__ == "__main__":
    unittest.main()
