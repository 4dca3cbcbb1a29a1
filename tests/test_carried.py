import random
import unittest

from landsentered.carried import called, moved, put_off, turned
from landsentered.errors import Clash, NoTelling, NoTurn
from landsentered.history import history
from landsentered.tellings import in_order, is_telling
from tests.helper import (FAR, FIVE, HUGE, LAST, MOST, NO_NAMES, NO_TEXTS, ODD_THINGS, TEN, drop, free, land,
                          random_worlds, slow_level, slow_lands, spot, spots_of_box, unchanged, whole)

SOME = [land(3, "wood", "", (((0, -1), (3, 4)), ((4, 0), (4, 9))), 2), drop(0, "wood"), free(9, "hare"),
        spot(LAST, "hare", (2, -7)), land(3, "glade", "wood", FIVE, 0)]
OTHER_SIGNS = {0: (1, 1, False), 1: (-1, 1, False), 2: (1, -1, False), 3: (-1, -1, False), 4: (1, 1, True),
               5: (-1, 1, True), 6: (1, -1, True), 7: (-1, -1, True)}


def slow_turn(at, number):
    """x and y with their signs, then exchanged, by the table above."""
    x_sign, y_sign, exchanged = OTHER_SIGNS[number]
    x, y = at[0] * x_sign, at[1] * y_sign
    return (y, x) if exchanged else (x, y)


class CarriedCase(unittest.TestCase):
    def refused(self, error, call, *things):
        def told(*again):
            with self.assertRaises(error) as met:
                call(*again)
            return met.exception.__class__
        self.assertIs(unchanged(self, told, *things), error)

    def told(self, wanted, call, *things):
        found = unchanged(self, call, *things)
        self.assertEqual(found, wanted)
        self.assertIsInstance(found, list)
        self.assertTrue(all(is_telling(telling) for telling in found))
        found.append(None)
        self.assertEqual(call(*things), wanted)


class Moved(CarriedCase):
    def test_spots_and_boxes(self):
        self.told([land(3, "wood", "", (((10, -101), (13, -96)), ((14, -100), (14, -91))), 2), drop(0, "wood"), free(9, "hare"),
                   spot(LAST, "hare", (12, -107)), land(3, "glade", "wood", (((10, -100), (15, -95)),), 0)],
                  moved, SOME, 10, -100)
        self.told(SOME, moved, SOME, 0, 0)
        self.told([], moved, [], 5, 5)

    def test_alike_ones_and_their_order_stay(self):
        some = [spot(5, "a", (1, 2)), spot(4, "a", (1, 2)), spot(5, "a", (1, 2))]
        self.told([spot(5, "a", (2, 4)), spot(4, "a", (2, 4)), spot(5, "a", (2, 4))], moved, some, 1, 2)

    def test_to_the_bounds_and_beyond(self):
        self.told([spot(1, "a", (MOST, -MOST))], moved, [spot(1, "a", (0, 0))], MOST, -MOST)
        self.told([spot(1, "a", (MOST, MOST))], moved, [spot(1, "a", (-MOST, -MOST))], 2 * MOST, 2 * MOST)
        for dx, dy in ((MOST + 1, 0), (0, MOST + 1), (-MOST - 1, 0), (0, -MOST - 1), (HUGE, 0), (0, -HUGE)):
            self.refused(NoTelling, moved, [spot(1, "a", (0, 0))], dx, dy)
            self.refused(NoTelling, moved, [free(1, "a"), drop(1, "a"), spot(1, "b", (0, 0))], dx, dy)
            self.refused(NoTelling, moved, [land(1, "a", "", (((0, 0), (0, 0)),))], dx, dy)
        wide = [land(1, "a", "", (((-5, -5), (5, 5)), ((0, 0), (9, 0))))]
        self.assertEqual(moved(wide, MOST - 9, 0)[0][4][1][1], (MOST, 0))
        self.refused(NoTelling, moved, wide, MOST - 8, 0)
        self.assertEqual(moved(wide, 5 - MOST, 0)[0][4][0][0], (-MOST, -5))
        self.refused(NoTelling, moved, wide, 4 - MOST, 0)
        self.refused(NoTelling, moved, wide, 0, MOST - 4)
        self.refused(NoTelling, moved, wide, 0, 4 - MOST)

    def test_what_has_no_spot_is_moved_anywhere(self):
        self.told([free(1, "a"), drop(2, "b")], moved, [free(1, "a"), drop(2, "b")], HUGE, -HUGE)

    def test_the_history_is_the_same(self):
        chance = random.Random(131)
        for world in random_worlds(132, 60, most=28):
            for by in ((chance.randint(-9, 9), chance.randint(-9, 9)), (MOST - 20, 20 - MOST)):
                self.assertEqual(history(moved(world, *by)), history(world))


class Turned(CarriedCase):
    def test_spots(self):
        for number, wanted in enumerate([(2, -7), (-2, -7), (2, 7), (-2, 7), (-7, 2), (-7, -2), (7, 2), (7, -2)]):
            self.told([spot(4, "hare", wanted)], turned, [spot(4, "hare", (2, -7))], number)

    def test_boxes(self):
        wanted = [((0, -1), (3, 4)), ((-3, -1), (0, 4)), ((0, -4), (3, 1)), ((-3, -4), (0, 1)),
                  ((-1, 0), (4, 3)), ((-1, -3), (4, 0)), ((-4, 0), (1, 3)), ((-4, -3), (1, 0))]
        for number in range(8):
            self.told([land(3, "wood", "moor", (wanted[number],), 2)], turned,
                      [land(3, "wood", "moor", (((0, -1), (3, 4)),), 2)], number)

    def test_boxes_keep_their_order_and_their_spots(self):
        for number in range(8):
            found = unchanged(self, turned, SOME, number)
            self.assertEqual(len(found), len(SOME))
            for telling, other in zip(SOME, found):
                self.assertTrue(is_telling(other))
                self.assertEqual(telling[:3], other[:3])
                if telling[0] == "land":
                    self.assertEqual((telling[3], telling[5], len(telling[4])), (other[3], other[5], len(other[4])))
                    for box, turn in zip(telling[4], other[4]):
                        self.assertEqual(sorted(slow_turn(at, number) for at in spots_of_box(box)), spots_of_box(turn))
                if telling[0] == "spot":
                    self.assertEqual(other[3], slow_turn(telling[3], number))

    def test_none_and_the_turn_nought(self):
        for number in range(8):
            self.told([], turned, [], number)
        self.told(SOME, turned, SOME, 0)

    def test_at_the_bounds(self):
        some = [spot(1, "a", (MOST, -MOST)), land(1, "a", "", (((-MOST, -MOST), (MOST, MOST)),))]
        for number in range(8):
            self.told([spot(1, "a", slow_turn((MOST, -MOST), number)), some[1]], turned, some, number)

    def test_what_is_no_turn(self):
        wrong = [8, -1, 16, -8, HUGE, -HUGE, True, False, None, "0", "4", "", (), (4,), [4], {4: 4}]
        for thing in wrong + [thing for thing in ODD_THINGS if not (whole(thing) and 0 <= thing <= 7)]:
            self.refused(NoTurn, turned, SOME, thing)
            self.refused(NoTurn, turned, [], thing)
        for tellings in ODD_THINGS:
            self.refused(NoTurn, turned, tellings, 8)
            self.refused(NoTurn, turned, tellings, True)
            self.refused(NoTurn, turned, [tellings], None)

    def test_the_history_is_the_same_where_none_are_unlike_at_one_time(self):
        for world in random_worlds(133, 60, most=28):
            alone = in_order(world)
            for number in range(8):
                self.assertEqual(history(turned(alone, number)), history(alone))


class PutOff(CarriedCase):
    def test_all_times(self):
        self.told([telling[:1] + (telling[1] + 5,) + telling[2:] for telling in SOME[:3]], put_off, SOME[:3], 5)
        self.told([spot(0, "a"), drop(2, "b")], put_off, [spot(7, "a"), drop(9, "b")], -7)
        self.told(SOME, put_off, SOME, 0)
        self.told([], put_off, [], HUGE)
        self.told([], put_off, [], -HUGE)

    def test_to_the_bounds_and_beyond(self):
        for telling in (land(5, "wood"), drop(5, "wood"), free(5, "hare"), spot(5, "hare")):
            self.told([telling[:1] + (LAST,) + telling[2:]], put_off, [telling], LAST - 5)
            self.told([telling[:1] + (0,) + telling[2:]], put_off, [telling], -5)
            for by in (LAST - 4, -6, LAST, -LAST, HUGE, -HUGE):
                self.refused(NoTelling, put_off, [telling], by)
                self.refused(NoTelling, put_off, [spot(5, "a"), telling], by)
        self.refused(NoTelling, put_off, [spot(1, "a"), spot(2, "a"), spot(0, "a")], -1)
        self.refused(NoTelling, put_off, SOME, 1)

    def test_the_history_is_put_off(self):
        for world in random_worlds(134, 60, most=28):
            for by in (0, 1, 1000, LAST - 20):
                self.assertEqual(history(put_off(world, by)), [(row[0] + by,) + row[1:] for row in history(world)])
                self.assertEqual(put_off(put_off(world, by), -by), world)


class Called(CarriedCase):
    def test_things_and_lands(self):
        self.told([("land", 3, "moor", "", SOME[0][4], 2), drop(0, "moor"), free(9, "fox"), spot(LAST, "fox", (2, -7)),
                   land(3, "glade", "moor", FIVE, 0)], called, SOME, {"hare": "fox"}, {"wood": "moor"})
        self.told(SOME, called, SOME, {}, {})
        self.told([], called, [], {"a": "b"}, {"c": "d"})

    def test_a_thing_and_a_land_called_alike(self):
        some = [land(1, "a"), drop(2, "a"), free(1, "a"), spot(1, "a")]
        self.told([land(1, "a"), drop(2, "a"), free(1, "b"), spot(1, "b")], called, some, {"a": "b"}, {})
        self.told([land(1, "b"), drop(2, "b"), free(1, "a"), spot(1, "a")], called, some, {}, {"a": "b"})
        self.told([land(1, "c"), drop(2, "c"), free(1, "c"), spot(1, "c")], called, some, {"a": "c"}, {"a": "c"})

    def test_outer_ones(self):
        some = [land(1, "a", "b"), land(2, "c", ""), land(3, "d", "d")]
        self.told([land(1, "a", "z"), land(2, "c", ""), land(3, "e", "e")], called, some, {}, {"b": "z", "d": "e"})

    def test_names_exchanged(self):
        some = [land(1, "a", "b"), land(2, "b", "a"), spot(1, "x"), free(2, "y"), spot(3, "y")]
        self.told([land(1, "b", "a"), land(2, "a", "b"), spot(1, "y"), free(2, "x"), spot(3, "x")], called, some,
                  {"x": "y", "y": "x"}, {"a": "b", "b": "a"})
        self.told([land(1, "b", "c"), land(2, "c", "b")], called, some[:2], {}, {"a": "b", "b": "c", "c": "a"})

    def test_a_key_that_stands_nowhere(self):
        self.told(SOME, called, SOME, {"nobody": "hare"}, {"nowhere": "wood", "neither": "glade"})
        self.told([spot(1, "b")], called, [spot(1, "a")], {"a": "b", "b": "b", "c": "b"}, {})
        self.told([land(1, "b")], called, [land(1, "a")], {}, {"a": "b", "b": "b", "c": "b"})
        # The name of a land does nothing to a thing of that name.
        self.told([spot(1, "wood"), land(1, "wood")], called, [spot(1, "wood"), land(1, "wood")], {"hare": "wood"}, {})

    def test_called_by_its_own_name(self):
        self.told(SOME, called, SOME, {"hare": "hare"}, {"wood": "wood", "glade": "glade"})

    def test_what_is_no_name(self):
        for tellings in (SOME, [], [spot(1, "a")]):
            for thing in NO_NAMES + NO_TEXTS:
                self.refused(Clash, called, tellings, {"a": thing}, {})
                self.refused(Clash, called, tellings, {}, {"a": thing})
                self.refused(Clash, called, tellings, {"b": "c", "a": thing}, {"b": "c"})
                if thing.__class__ not in (list, dict):
                    self.refused(Clash, called, tellings, {thing: "a"}, {})
                    self.refused(Clash, called, tellings, {}, {thing: "a"})
                    self.refused(Clash, called, tellings, {"b": "c", thing: "z"}, {})
        for tellings in ODD_THINGS:
            self.refused(Clash, called, tellings, {"a": "A"}, {})
            self.refused(Clash, called, [tellings], {}, {"": "a"})
            self.refused(Clash, called, tellings, {}, {"a": ""})

    def test_two_unlike_names_that_become_one(self):
        things = [spot(1, "a"), free(2, "b"), spot(3, "c")]
        self.refused(Clash, called, things, {"a": "b"}, {})
        self.refused(Clash, called, things, {"a": "z", "c": "z"}, {})
        self.refused(Clash, called, things, {"a": "z", "b": "z", "c": "y"}, {})
        self.refused(Clash, called, things, {"c": "b", "a": "c"}, {})
        self.told([spot(1, "b"), free(2, "a"), spot(3, "c")], called, things, {"a": "b", "b": "a"}, {})
        lands = [land(1, "a"), drop(2, "b"), land(3, "c", "d")]
        for names in ({"a": "b"}, {"b": "a"}, {"a": "d"}, {"d": "a"}, {"d": "c"}, {"c": "d"}, {"b": "d"}, {"d": "b"},
                      {"a": "z", "d": "z"}, {"c": "z", "d": "z"}, {"b": "z", "d": "z"}):
            self.refused(Clash, called, lands, {}, names)
        self.refused(Clash, called, [land(1, "a", "b")], {}, {"a": "b"})
        self.refused(Clash, called, [land(1, "a", "b"), land(1, "c", "d")], {}, {"b": "d"})

    def test_all_to_others(self):
        names = {chr(97 + k): "n" + chr(97 + k) for k in range(12)}
        some = [spot(k, name) for k, name in enumerate(names)] + [land(k, name) for k, name in enumerate(list(names)[:10])]
        self.told([telling[:2] + (names[telling[2]],) + telling[3:] for telling in some], called, some, names, names)

    def test_the_dicts_handed_in_are_not_kept(self):
        things, lands = {"hare": "fox"}, {"wood": "moor"}
        found = called(SOME, things, lands)
        things["hare"], lands["wood"] = "owl", "fen"
        self.assertEqual(found, called(SOME, {"hare": "fox"}, {"wood": "moor"}))

    def test_the_history_has_the_same_rows_so_called_in_the_order_then_told(self):
        things = {"a": "z", "fox": "a", "hare": "fox"}
        lands = {"a": "wood", "wood": "c", "c": "a", "z": "b", "b": "z", "gone": "far"}
        back = ({name: key for key, name in things.items()}, {name: key for key, name in lands.items()})
        met = 0
        for world in random_worlds(135, 80, most=28):
            alone = in_order(world)
            other = called(alone, things, lands)
            self.assertEqual(called(other, *back), alone)
            rows, found = history(alone), history(other)
            wanted = [(row[0], things[row[1]], row[2], lands[row[3]]) for row in rows]
            met += wanted != found
            self.assertEqual([row[0] for row in found], [row[0] for row in wanted])
            self.assertEqual(sorted(found), sorted(wanted))
            self.in_the_order_of_levels(other, found)
        self.assertGreater(met, 3)

    def in_the_order_of_levels(self, tellings, rows):
        """Where only spots are told at a time: things by name, each with its goings, then its comings by levels."""
        for time in {row[0] for row in rows}:
            if all(t[0] == "spot" for t in tellings if t[1] == time):
                lands = slow_lands(tellings, lambda when: when <= time)
                now = [row for row in rows if row[0] == time]
                self.assertEqual(now, sorted(now, key=lambda row: (
                    row[1], row[2] == "comes", slow_level(lands, row[3]) * (1 if row[2] == "comes" else -1), row[3])))


class HandedIn(CarriedCase):
    def test_the_lists_handed_in_stay_and_are_not_given_back(self):
        some = [free(1, "a"), drop(2, "b")]
        for found in (moved(some, 0, 0), turned(some, 0), put_off(some, 0), called(some, {}, {})):
            self.assertEqual(found, some)
            self.assertIsNot(found, some)
            found.clear()
        self.assertEqual(some, [free(1, "a"), drop(2, "b")])

    def test_thirty_one(self):
        some = [spot(k, "hare", (k, -k)) for k in range(29)] + [land(3, "wood", "", TEN + FIVE), land(9, "far", "wood", FAR)]
        self.told([spot(k, "hare", (-k, k)) for k in range(29)] +
                  [land(3, "wood", "", (((0, 0), (10, 10)), ((0, 0), (5, 5)))), land(9, "far", "wood", FAR)],
                  turned, some, 4)
        self.assertEqual(history(put_off(moved(some, 4, 4), 4)), [(row[0] + 4,) + row[1:] for row in history(some)])


if __name__ == "__main__":
    unittest.main()
