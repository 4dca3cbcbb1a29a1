import itertools
import random
import unittest

from landsentered.history import EMPTY, gone_on, history, view_at
from tests.helper import (BETWEEN, FAR, FIVE, IN, LAST, MOST, OUT, TEN, comes, drop, free, goes, land, names_of_things,
                          random_worlds, slow_history, slow_lands, slow_level, slow_view_at, spot, unchanged)


def view(lands, things):
    return (tuple(sorted(lands)), tuple(sorted(things)))


def thing(name, at, **stays):
    return (name, at, tuple(sorted(stays.items())))


class Telling(unittest.TestCase):
    def going(self, wanted, before, *tellings):
        """In any order of few ones, and told twice, the same is told; the view that comes of it is given back."""
        orders = list(itertools.permutations(tellings)) if len(tellings) < 5 else [tellings, tellings[::-1]]
        found = unchanged(self, gone_on, before, list(tellings))
        self.assertEqual(found[1], wanted)
        self.assertIsInstance(found, tuple)
        self.assertIsInstance(found[1], list)
        for order in orders:
            self.assertEqual(gone_on(before, list(order) + [order[0]] if order else []), found)
        return found[0]

    def views(self, *tellings):
        """The view that the history is at behind all tellings."""
        return view_at(list(tellings), LAST)


class GoneOn(Telling):
    def test_the_empty_view(self):
        self.assertEqual(EMPTY, ((), ()))

    def test_no_tellings(self):
        self.assertEqual(self.going([], EMPTY), EMPTY)
        there = self.views(land(0, "wood"), spot(1, "hare"), spot(1, "fox", OUT))
        self.assertEqual(self.going([], there), there)

    def test_a_land_alone(self):
        self.assertEqual(self.going([], EMPTY, land(3, "wood")), view([("wood", "", TEN, 1)], []))

    def test_lands_told_and_dropped_together(self):
        before = self.views(land(0, "a"), land(0, "b"), land(0, "c", "a", FIVE, 2))
        found = self.going([], before, drop(4, "b"), land(4, "d", "gone"), land(4, "a", "d", FAR, 0), drop(4, "x"))
        self.assertEqual(found, view([("a", "d", FAR, 0), ("c", "a", FIVE, 2), ("d", "gone", TEN, 1)], []))

    def test_a_land_dropped_that_is_not_there(self):
        self.assertEqual(self.going([], EMPTY, drop(3, "wood")), EMPTY)
        there = self.views(land(0, "wood"), spot(1, "hare"))
        self.assertEqual(self.going([], there, drop(3, "moor")), there)

    def test_a_new_thing(self):
        before = self.views(land(0, "wood"))
        self.assertEqual(self.going(comes(3, "hare", "wood"), before, spot(3, "hare")),
                         view([("wood", "", TEN, 1)], [thing("hare", IN, wood=3)]))
        for at in (BETWEEN, OUT):
            self.assertEqual(self.going([], before, spot(3, "hare", at)),
                             view([("wood", "", TEN, 1)], [thing("hare", at)]))

    def test_a_known_thing(self):
        before = self.views(land(0, "wood"), spot(1, "hare"))
        lands = [("wood", "", TEN, 1)]
        self.assertEqual(self.going([], before, spot(3, "hare", (6, 6))), view(lands, [thing("hare", (6, 6), wood=1)]))
        self.assertEqual(self.going([], before, spot(3, "hare", BETWEEN)), view(lands, [thing("hare", BETWEEN, wood=1)]))
        self.assertEqual(self.going(goes(3, "hare", "wood"), before, spot(3, "hare", OUT)),
                         view(lands, [thing("hare", OUT)]))

    def test_between_when_in_last_and_when_out_last(self):
        before = self.views(land(0, "wood"), spot(1, "hare"), spot(1, "fox", OUT))
        found = self.going([], before, spot(3, "hare", BETWEEN), spot(3, "fox", BETWEEN))
        self.assertEqual(found, view([("wood", "", TEN, 1)], [thing("hare", BETWEEN, wood=1), thing("fox", BETWEEN)]))
        self.assertEqual(self.going([], found, spot(4, "hare", BETWEEN), spot(4, "fox", BETWEEN)), found)

    def test_things_by_name_each_with_its_goings_first(self):
        before = self.views(land(0, "a"), land(0, "b", "", FAR), spot(1, "m"), spot(1, "c", (25, 25)), spot(1, "z"))
        found = self.going(goes(3, "c", "b") + comes(3, "c", "a") + goes(3, "m", "a") + comes(3, "m", "b")
                           + comes(3, "q", "b") + goes(3, "z", "a") + comes(3, "z", "b"), before,
                           spot(3, "z", (25, 25)), spot(3, "c"), spot(3, "m", (25, 25)), spot(3, "q", (25, 25)))
        self.assertEqual(found[1], (thing("c", IN, a=3), thing("m", (25, 25), b=3), thing("q", (25, 25), b=3),
                                    thing("z", (25, 25), b=3)))

    def test_a_land_told_anew_with_another_shape(self):
        before = self.views(land(0, "wood"), spot(1, "hare", (8, 8)))
        for shape, stays in ((FIVE, False), ((((0, 0), (8, 8)),), True), (FAR, False), ((((0, 0), (6, 6)),), False),
                             ((((0, 0), (7, 7)),), True)):
            found = self.going([] if stays else goes(4, "hare", "wood"), before, land(4, "wood", "", shape))
            self.assertEqual(found, view([("wood", "", shape, 1)],
                                         [thing("hare", (8, 8), wood=1) if stays else thing("hare", (8, 8))]))
        before = self.views(land(0, "wood", "", FIVE), spot(1, "hare", (8, 8)))
        self.assertEqual(self.going(comes(4, "hare", "wood"), before, land(4, "wood"))[1],
                         (thing("hare", (8, 8), wood=4),))

    def test_a_land_told_anew_with_another_wobble(self):
        before = self.views(land(0, "wood"), spot(1, "hare", (0, 5)), spot(2, "hare"), spot(3, "hare", (0, 5)))
        self.assertEqual(before[1], (thing("hare", (0, 5), wood=2),))
        self.assertEqual(self.going([], before, land(4, "wood", "", TEN, 9))[1], before[1])
        outside = self.views(land(0, "wood", "", TEN, 4), spot(1, "hare"), spot(2, "hare", OUT))
        self.assertEqual(outside[1], (thing("hare", OUT, wood=1),))
        self.assertEqual(self.going(goes(4, "hare", "wood"), outside, land(4, "wood"))[1], (thing("hare", OUT),))
        never = self.views(land(0, "wood", "", TEN, 1), spot(1, "hare", BETWEEN))
        self.assertEqual(self.going(comes(4, "hare", "wood"), never, land(4, "wood", "", TEN, 0))[1],
                         (thing("hare", BETWEEN, wood=4),))

    def test_a_land_told_anew_with_another_outer(self):
        before = self.views(land(0, "wood"), land(0, "glade", "wood"), land(0, "far", "", FAR), spot(1, "hare"))
        self.assertEqual(before[1], (thing("hare", IN, wood=1, glade=1),))
        self.assertEqual(self.going([], before, land(4, "glade"))[1], before[1])
        for outer in ("far", "gone", "glade"):
            found = self.going(goes(4, "hare", "glade"), before, land(4, "glade", outer))
            self.assertEqual(found[1], (thing("hare", IN, wood=1),))
        self.assertEqual(self.going(goes(4, "hare", "glade", "wood"), before, land(4, "wood", "glade"))[1],
                         (thing("hare", IN),))

    def test_told_anew_just_as_it_was(self):
        before = self.views(land(0, "wood"), spot(1, "hare"), spot(2, "hare", BETWEEN))
        self.assertEqual(self.going([], before, land(4, "wood")), before)

    def test_an_outer_land_that_is_dropped(self):
        before = self.views(land(0, "wood"), land(0, "glade", "wood"), land(0, "nest", "glade"), spot(1, "hare"))
        found = self.going(goes(4, "hare", "nest", "glade", "wood"), before, drop(4, "wood"))
        self.assertEqual(found, view([("glade", "wood", TEN, 1), ("nest", "glade", TEN, 1)], [thing("hare", IN)]))
        found = self.going(goes(4, "hare", "nest", "glade"), before, drop(4, "glade"))
        self.assertEqual(found, view([("wood", "", TEN, 1), ("nest", "glade", TEN, 1)], [thing("hare", IN, wood=1)]))
        self.assertEqual(self.going(goes(4, "hare", "nest"), before, drop(4, "nest"))[1],
                         (thing("hare", IN, wood=1, glade=1),))

    def test_freeings(self):
        before = self.views(land(0, "wood"), land(0, "a", "wood"), land(0, "z"), spot(1, "hare"), spot(2, "fox"),
                            spot(2, "owl", OUT))
        found = self.going(goes(4, "fox", "a", "wood", "z") + goes(4, "hare", "a", "wood", "z"), before,
                           free(4, "hare"), free(4, "fox"), free(4, "owl"), free(4, "nobody"))
        self.assertEqual(found, (before[0], ()))
        found = self.going(goes(4, "fox", "a", "wood", "z"), before, free(4, "fox"))
        self.assertEqual(found[1], (before[1][1], before[1][2]))
        self.assertEqual(self.going([], before, free(4, "nobody")), before)
        self.assertEqual(self.going([], EMPTY, free(4, "nobody")), EMPTY)

    def test_a_freed_one_told_at_the_same_time(self):
        before = self.views(land(0, "wood"), spot(1, "hare"))
        found = self.going(goes(4, "hare", "wood") + comes(4, "hare", "wood"), before, free(4, "hare"), spot(4, "hare"))
        self.assertEqual(found[1], (thing("hare", IN, wood=4),))
        found = self.going(goes(4, "hare", "wood"), before, free(4, "hare"), spot(4, "hare", BETWEEN))
        self.assertEqual(found[1], (thing("hare", BETWEEN),))
        before = self.views(land(0, "wood"))
        self.assertEqual(self.going(comes(4, "hare", "wood"), before, free(4, "hare"), spot(4, "hare"))[1],
                         (thing("hare", IN, wood=4),))

    def test_all_kinds_at_one_time(self):
        before = self.views(land(0, "a"), land(0, "b", "", FAR), spot(1, "m"), spot(1, "n"), spot(1, "o", (25, 25)))
        found = self.going(
            goes(4, "m", "a") + comes(4, "m", "c") + goes(4, "n", "a") + comes(4, "n", "c")
            + goes(4, "n", "c")
            + goes(4, "m", "c") + comes(4, "m", "b") + comes(4, "n", "c") + comes(4, "p", "c"),
            before, drop(4, "a"), land(4, "c"), free(4, "n"), spot(4, "p"), spot(4, "n", (6, 6)), spot(4, "m", (25, 25)))
        self.assertEqual(found, view([("b", "", FAR, 1), ("c", "", TEN, 1)], [
            thing("m", (25, 25), b=4), thing("n", (6, 6), c=4), thing("o", (25, 25), b=1), thing("p", IN, c=4)]))

    def test_a_spot_is_seen_by_the_lands_told_at_its_time(self):
        self.assertEqual(self.going(comes(0, "hare", "wood"), EMPTY, spot(0, "hare"), land(0, "wood"))[1],
                         (thing("hare", IN, wood=0),))
        before = self.views(land(0, "wood"))
        self.assertEqual(self.going([], before, spot(4, "hare"), drop(4, "wood")), view([], [thing("hare", IN)]))

    def test_two_unlike_tellings_of_one_land(self):
        before = self.views(land(0, "wood"), spot(1, "hare", (8, 8)))
        found = self.going(goes(4, "hare", "wood"), before, land(4, "wood"), drop(4, "wood"))
        self.assertEqual(found, view([], [thing("hare", (8, 8))]))
        found = self.going(goes(4, "hare", "wood"), before, land(4, "wood"), land(4, "wood", "", FIVE))
        self.assertEqual(found[0], (("wood", "", FIVE, 1),))
        found = self.going([], before, land(4, "wood", "", TEN, 2), land(4, "wood", "", TEN, 0), land(4, "wood", "x"))
        self.assertEqual(found[0], (("wood", "", TEN, 0),))

    def test_two_unlike_spots_of_one_thing(self):
        before = self.views(land(0, "wood"), spot(1, "hare"))
        found = self.going(goes(4, "hare", "wood"), before, spot(4, "hare"), spot(4, "hare", OUT), spot(4, "hare", (9, 9)))
        self.assertEqual(found[1], (thing("hare", OUT),))
        self.assertEqual(self.going([], before, spot(4, "hare", (25, 25)), spot(4, "hare", (6, 6)))[1],
                         (thing("hare", (6, 6), wood=1),))

    def test_goings_by_level_and_name(self):
        before = self.views(land(0, "x"), land(0, "b", "x"), land(0, "c", "x"), land(0, "a", "c"), land(0, "d", "b"),
                            land(0, "y"), spot(1, "hare"))
        wanted = ["a", "d", "b", "c", "x", "y"]
        self.going(goes(4, "hare", *wanted), before, spot(4, "hare", OUT))
        self.going(goes(4, "hare", *wanted), before, free(4, "hare"))
        self.going(goes(4, "hare", *wanted), before, *[drop(4, name) for name in "abcdxy"])

    def test_comings_by_level_and_name(self):
        before = self.views(land(0, "x"), land(0, "b", "x"), land(0, "c", "x"), land(0, "a", "c"), land(0, "d", "b"),
                            land(0, "y"))
        self.going(comes(4, "hare", "x", "y", "b", "c", "a", "d"), before, spot(4, "hare"))
        there = self.views(spot(1, "hare"))
        self.going(comes(4, "hare", "x", "y", "b", "c", "a", "d"), there,
                   *[("land", 4) + row for row in before[0]])

    def test_a_level_lost_in_the_part_itself(self):
        # b and a go out by the levels ahead of the part, though behind it neither has one.
        before = self.views(land(0, "b"), land(0, "a", "b"), land(0, "c", "a"), spot(1, "hare"))
        self.going(goes(4, "hare", "c", "a", "b"), before, land(4, "b", "c"))
        self.going(goes(4, "hare", "c", "a", "b"), before, land(4, "b", "gone"))
        self.going(goes(4, "hare", "c", "a", "b"), before, land(4, "b", "b"))
        self.going(goes(4, "hare", "c", "a", "b"), before, land(4, "a", "c"), land(4, "b", "c"), land(4, "c", "b"))

    def test_a_level_won_in_the_part_itself(self):
        # c and a had no level ahead of the part.
        before = self.views(land(0, "b", "gone"), land(0, "a", "b"), land(0, "c", "a"), spot(1, "hare"))
        self.assertEqual(before[1], (thing("hare", IN),))
        self.going(comes(4, "hare", "b", "a", "c"), before, land(4, "b"))
        self.going(comes(4, "hare", "gone", "b", "a", "c"), before, land(4, "gone"))
        ring = self.views(land(0, "b", "c"), land(0, "a", "b"), land(0, "c", "a"), spot(1, "hare"))
        self.going(comes(4, "hare", "a", "c", "b"), ring, land(4, "a"))

    def test_levels_that_turn_round_in_the_part(self):
        # Out of a (level 2 ahead) and b (level 1 ahead), into d (level 1 behind) and c (level 2 behind).
        before = self.views(land(0, "b"), land(0, "a", "b"), land(0, "c", "", FAR), land(0, "d", "c", FAR), spot(1, "hare"))
        self.going(goes(4, "hare", "a", "b") + comes(4, "hare", "d", "c"), before, land(4, "a", "", FAR),
                   land(4, "b", "a", FAR), land(4, "d"), land(4, "c", "d"))
        # Gone out of by the levels ahead (b 1, a 2), though behind the part they are a 1, b 2.
        self.going(goes(4, "hare", "a", "b"), before, land(4, "a", "", FAR), land(4, "b", "a", FAR))
        # Come into by the levels behind (d 1, c 2), though ahead of the part they were c 1, d 2.
        self.going(comes(4, "hare", "d", "c"), before, land(4, "d"), land(4, "c", "d"))

    def test_kept_in_some_out_of_others_into_others(self):
        before = self.views(land(0, "a"), land(0, "b", "a"), land(0, "c", "", FAR), spot(1, "hare"))
        found = self.going(goes(4, "hare", "b") + comes(4, "hare", "c"), before, land(4, "b", "a", FAR), land(4, "c"))
        self.assertEqual(found[1], (thing("hare", IN, a=1, c=4),))

    def test_a_thing_and_a_land_called_alike(self):
        before = self.views(land(0, "hare"), spot(1, "hare"))
        self.assertEqual(before, view([("hare", "", TEN, 1)], [thing("hare", IN, hare=1)]))
        self.assertEqual(self.going(goes(4, "hare", "hare"), before, drop(4, "hare"), free(4, "hare")), EMPTY)
        self.assertEqual(self.going(goes(4, "hare", "hare"), before, free(4, "hare"))[0], before[0])

    def test_at_the_time_of_the_views_begins(self):
        before = self.views(land(5, "wood"), spot(5, "hare"))
        self.assertEqual(self.going(goes(5, "hare", "wood"), before, spot(5, "hare", OUT))[1], (thing("hare", OUT),))
        self.assertEqual(self.going([], before, spot(5, "hare", (6, 6)))[1], (thing("hare", (6, 6), wood=5),))

    def test_twenty_of_each_at_one_time(self):
        names = ["n" + chr(97 + k) for k in range(20)]
        lands = [land(7, name, names[k - 1] if k else "") for k, name in enumerate(names)]
        wanted = []
        for name in names:
            wanted += comes(7, name, *names)
        found = self.going(wanted, EMPTY, *lands, *[spot(7, name) for name in names])
        self.assertEqual(found, view([row[2:] for row in lands], [(name, IN, tuple((one, 7) for one in names))
                                                                 for name in names]))

    def test_goes_on_time_by_time_as_the_history(self):
        for world in random_worlds(81, 60):
            there, rows = EMPTY, []
            for time in sorted({telling[1] for telling in world}):
                now = [telling for telling in world if telling[1] == time]
                there, some = unchanged(self, gone_on, there, now)
                rows += some
                self.assertEqual(there, slow_view_at(world, time))
            self.assertEqual(rows, slow_history(world))

    def test_the_told_is_the_askers(self):
        before = self.views(land(0, "wood"))
        tellings = [spot(3, "hare")]
        found = gone_on(before, tellings)
        found[1].clear()
        self.assertEqual(gone_on(before, tellings)[1], comes(3, "hare", "wood"))
        kept = gone_on(before, tellings)
        tellings.append(drop(3, "wood"))
        self.assertEqual(kept[1], comes(3, "hare", "wood"))
        none = gone_on(before, [])[1]
        none.append(1)
        self.assertEqual(gone_on(before, []), (before, []))
        self.assertEqual(EMPTY, ((), ()))


class History(Telling):
    def test_no_tellings(self):
        self.assertEqual(unchanged(self, history, []), [])
        for time in (0, 1, LAST):
            self.assertEqual(unchanged(self, view_at, [], time), EMPTY)

    def test_told_late_and_out_of_order(self):
        tellings = [land(2, "wood"), spot(1, "hare"), spot(5, "hare", OUT), spot(9, "hare"), drop(11, "wood")]
        wanted = comes(2, "hare", "wood") + goes(5, "hare", "wood") + comes(9, "hare", "wood") + goes(11, "hare", "wood")
        for order in itertools.permutations(tellings):
            self.assertEqual(history(list(order)), wanted)

    def test_spots_gone_over_between_are_not_looked_at(self):
        self.assertEqual(history([land(0, "wood"), spot(1, "hare", (-20, 5)), spot(2, "hare", (20, 5))]), [])

    def test_views_ahead_of_at_between_and_behind_the_told_times(self):
        tellings = [spot(7, "hare", OUT), land(2, "wood"), spot(4, "hare")]
        lands = [("wood", "", TEN, 1)]
        for time in (0, 1):
            self.assertEqual(unchanged(self, view_at, tellings, time), EMPTY)
        for time in (2, 3):
            self.assertEqual(view_at(tellings, time), view(lands, []))
        for time in (4, 5, 6):
            self.assertEqual(view_at(tellings, time), view(lands, [thing("hare", IN, wood=4)]))
        for time in (7, 8, LAST):
            self.assertEqual(view_at(tellings, time), view(lands, [thing("hare", OUT)]))

    def test_the_first_and_the_last_time(self):
        tellings = [land(0, "wood"), spot(0, "hare"), spot(LAST, "hare", OUT), spot(LAST - 1, "hare", BETWEEN)]
        self.assertEqual(history(tellings), comes(0, "hare", "wood") + goes(LAST, "hare", "wood"))
        self.assertEqual(view_at(tellings, 0)[1], (thing("hare", IN, wood=0),))
        self.assertEqual(view_at(tellings, LAST - 1)[1], (thing("hare", BETWEEN, wood=0),))
        self.assertEqual(view_at(tellings, LAST)[1], (thing("hare", OUT),))

    def test_numbers_by_size_and_not_by_figures(self):
        tellings = [land(0, "wood"), spot(10, "hare", OUT), spot(9, "hare")]
        self.assertEqual(history(tellings), comes(9, "hare", "wood") + goes(10, "hare", "wood"))

    def test_far_out_on_the_grid(self):
        wide = (((-MOST, -MOST), (MOST, MOST)),)
        tellings = [land(0, "all", "", wide, 0), spot(1, "hare", (MOST, MOST)), land(2, "all", "", wide, MOST),
                    spot(2, "owl", (0, 0)), spot(3, "fox", (1, 0))]
        self.assertEqual(history(tellings), comes(1, "hare", "all") + comes(2, "owl", "all"))

    def test_against_each_thing_by_itself(self):
        chance = random.Random(82)
        many = 0
        for world in random_worlds(83, 150):
            wanted = slow_history(world)
            many += len(wanted)
            for _ in range(2):
                chance.shuffle(world)
                self.assertEqual(unchanged(self, history, world), wanted)
            self.assertEqual(history(world + world[:7]), wanted)
            for time in (0, 1, 3, 7, 20, LAST):
                self.assertEqual(unchanged(self, view_at, world, time), slow_view_at(world, time))
        self.assertGreater(many, 500)

    def test_eighty_one_in_any_order_some_several_times(self):
        chance = random.Random(84)
        names = ["t" + chr(97 + k) for k in range(12)]
        places = ["l" + chr(97 + k) for k in range(10)]
        for world in random_worlds(85, 8, lasts=(3, 20, 1000), things=names, lands=places):
            told = (world * 81 + [land(0, "la")] * 81)[:81]
            wanted = slow_history(told)
            for _ in range(4):
                chance.shuffle(told)
                self.assertEqual(unchanged(self, history, told), wanted)

    def test_the_told_is_the_askers(self):
        tellings = [land(0, "wood"), spot(1, "hare")]
        history(tellings).clear()
        self.assertEqual(history(tellings), comes(1, "hare", "wood"))
        found = history(tellings)
        tellings.clear()
        self.assertEqual(found, comes(1, "hare", "wood"))
        self.assertEqual(history(tellings), [])
        history([]).append(1)
        self.assertEqual(history([]), [])


def joined(tellings):
    """The names of lands in heaps, such that outer and inner of any telling lie in one heap."""
    heaps = [{t[2]} | ({t[3]} - {""}) for t in tellings if t[0] == "land"] + [{t[2]} for t in tellings if t[0] == "drop"]
    done = []
    for heap in heaps:
        apart = [other for other in done if not other & heap]
        done = apart + [heap.union(*[other for other in done if other & heap])]
    return done


class Promise(unittest.TestCase):
    def test_comings_and_goings_take_turns(self):
        for world in random_worlds(91, 100):
            words = {}
            for _, name, word, place in history(world):
                words.setdefault((name, place), []).append(word)
            for told in words.values():
                self.assertEqual(told, (["comes", "goes"] * len(told))[:len(told)])

    def test_in_an_inner_land_so_in_the_outer_one(self):
        met = 0
        for world in random_worlds(92, 100):
            for time in range(21):
                lands, things = view_at(world, time)
                outers = {row[0]: row[1] for row in lands}
                for _, _, stays in things:
                    inside = [stay[0] for stay in stays]
                    self.assertEqual(inside, sorted(set(inside)))
                    for name in inside:
                        self.assertTrue(outers[name] == "" or outers[name] in inside)
                        met += outers[name] != ""
        self.assertGreater(met, 100)

    def test_from_outer_to_inner_and_from_inner_to_outer(self):
        met = 0
        for world in random_worlds(93, 100):
            rows = history(world)
            for (time, name, word, first), row in zip(rows, rows[1:]):
                if row[:3] != (time, name, word) or any(t[0] in ("land", "drop") and t[1] == time for t in world):
                    continue
                lands = slow_lands(world, lambda when: when <= time)
                before, behind = slow_level(lands, first), slow_level(lands, row[3])
                self.assertTrue(before <= behind if word == "comes" else before >= behind)
                met += before != behind
        self.assertGreater(met, 20)

    def test_things_do_not_hang_on_one_another(self):
        for world in random_worlds(94, 80):
            rows = history(world)
            for name in names_of_things(world):
                others = [other for other in names_of_things(world) if other != name]
                alone = [t for t in world if t[0] in ("land", "drop") or t[2] not in others]
                self.assertEqual(history(alone), [row for row in rows if row[1] == name])

    def test_lands_that_nothing_joins_do_not_hang_on_one_another(self):
        met = 0
        for world in random_worlds(95, 100, most=25):
            rows = history(world)
            heaps = joined(world)
            met += len(heaps) > 1
            for heap in heaps:
                alone = [t for t in world if t[0] in ("free", "spot") or t[2] in heap]
                self.assertEqual(history(alone), [row for row in rows if row[3] in heap])
        self.assertGreater(met, 20)

    def test_behind_its_freeing_a_thing_has_a_history_of_its_own(self):
        met = 0
        for world in random_worlds(96, 150):
            for word, time, name in [t for t in world if t[0] == "free"]:
                its = [t for t in world if t[0] in ("land", "drop") or t[2] == name]
                first = [t for t in its if t[0] in ("land", "drop") or t[1] < time or t == (word, time, name)]
                again = [t for t in its if t[0] in ("land", "drop") or t[1] > time or t[0] == "spot" and t[1] == time]
                self.assertEqual(history(its), history(first) + history(again))
                met += bool(history(first)) and bool(history(again))
        self.assertGreater(met, 10)

    def test_a_look_more_or_less_changes_nothing(self):
        for world in random_worlds(97, 50):
            more = [drop(time, "nowhere") for time in range(21)]
            self.assertEqual(history(world + more), history(world))


if __name__ == "__main__":
    unittest.main()
