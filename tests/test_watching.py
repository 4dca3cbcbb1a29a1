import copy
import unittest

from landsentered.book import Book, book_of
from landsentered.errors import NoWatch, TooMany
from tests.helper import (BETWEEN, FAR, HUGE, LAST, NO_NAMES, NO_TEXTS, ODD_THINGS, OUT, comes, deep, drop, free, goes, land,
                          spot, whole)

NO_WHATS = [0, -1, -LAST, LAST + 1, HUGE, -HUGE, True, False, None, "", "stays", "come", "Comes", "goes ", "comes\n", "5", "a",
            (), [], {}, (5,), ["comes"], {"goes": 1}, ("comes", "goes"), deep(5, 29)]


def stays(time, thing, name):
    return (time, thing, "stays", name)


def told(book):
    return book.clock(), book.rows(), book.cut()


class WatchCase(unittest.TestCase):
    def refused(self, error, book, call, *things):
        before, kept = copy.deepcopy(told(book)), copy.deepcopy(things)
        with self.assertRaises(error) as met:
            call(*things)
        self.assertIs(met.exception.__class__, error)
        self.assertEqual(told(book), before)
        self.assertEqual(things, kept)

    def book(self, *tellings, late=0, watchers=()):
        book = Book(late)
        for number, watcher in enumerate(watchers):
            self.assertEqual(book.watch(*watcher), number)
        for telling in tellings:
            self.assertEqual(book.tell(telling)[0], "taken")
        return book


class Watch(WatchCase):
    def test_any_thing_and_any_land(self):
        book = Book(0)
        watchers = [(thing, name, what) for thing in ("", "hare", "z", "abcdefgh") for name in ("", "wood")
                    for what in ("comes", 1)] + [("a", "a", LAST), ("", "", "goes")]
        for number, watcher in enumerate(watchers):
            self.assertEqual(book.watch(*watcher), number)
        self.assertEqual(book.cut()[4], tuple((number,) + watcher for number, watcher in enumerate(watchers)))
        self.assertEqual(book.cut()[5], len(watchers))

    def test_the_same_one_twice_has_two_numbers(self):
        book = Book(0)
        self.assertEqual([book.watch("hare", "wood", "comes") for _ in range(3)], [0, 1, 2])
        self.assertEqual(len(book.cut()[4]), 3)

    def test_each_part_wrong_alone(self):
        book = self.book(land(0, "wood"), spot(4, "hare"), watchers=[("", "", "comes")])
        for thing in NO_NAMES + NO_TEXTS + ODD_THINGS:
            if thing not in ("", "a", "ab"):
                self.refused(NoWatch, book, book.watch, thing, "wood", "comes")
                self.refused(NoWatch, book, book.watch, "hare", thing, "comes")
                self.refused(NoWatch, book, book.watch, "", thing, 5)
        for what in NO_WHATS + [thing for thing in ODD_THINGS if not (whole(thing) and thing == 1)]:
            self.refused(NoWatch, book, book.watch, "hare", "wood", what)
            self.refused(NoWatch, book, book.watch, "", "", what)
        self.assertEqual(book.watch("", "", "comes"), 1)

    def test_numbers_never_come_twice(self):
        book = Book(0)
        for number in range(50):
            self.assertEqual(book.watch("", "", "goes"), number)
            self.assertIsNone(book.unwatch(number))
        self.assertEqual(book.cut()[4:], ((), 50))
        self.assertEqual([book.watch("", "", 1), book.watch("", "", 2), book.watch("", "", 3)], [50, 51, 52])
        book.unwatch(51)
        self.assertEqual(book.watch("", "", 4), 53)
        self.assertEqual(book.cut()[4:], (((50, "", "", 1), (52, "", "", 3), (53, "", "", 4)), 54))
        book.unwatch(53)
        self.assertEqual(book_of(book.cut()).watch("", "", 4), 54)

    def test_twenty_at_once(self):
        book = Book(0)
        for number in range(20):
            self.assertEqual(book.watch("", "", number + 1), number)
        self.refused(TooMany, book, book.watch, "", "", "comes")
        self.refused(TooMany, book, book.watch, "hare", "wood", 5)
        for what in NO_WHATS:
            self.refused(NoWatch, book, book.watch, "", "", what)
        self.refused(NoWatch, book, book.watch, "Hare", "", "comes")
        self.refused(NoWatch, book, book.watch, "", None, "comes")
        other = book_of(book.cut())
        self.refused(TooMany, other, other.watch, "", "", "comes")
        book.unwatch(7)
        self.assertEqual(book.watch("", "", "comes"), 20)
        self.refused(TooMany, book, book.watch, "", "", "comes")


class Unwatch(WatchCase):
    def test_a_number_of_none_that_is_there(self):
        book = self.book(watchers=[("", "", "comes"), ("", "", "goes"), ("", "", 3)])
        for number in (3, 4, -1, -3, LAST, HUGE, -HUGE):
            self.refused(NoWatch, book, book.unwatch, number)
        self.assertIsNone(book.unwatch(1))
        self.refused(NoWatch, book, book.unwatch, 1)
        self.assertEqual(book.cut()[4], ((0, "", "", "comes"), (2, "", "", 3)))
        self.refused(NoWatch, Book(0), Book(0).unwatch, 0)

    def test_what_is_no_number(self):
        book = self.book(watchers=[("", "", "comes"), ("", "", "goes")])
        for thing in [thing for thing in ODD_THINGS if not (whole(thing) and thing in (0, 1))] + ["0", (0,), [0], {0: 0}]:
            self.refused(NoWatch, book, book.unwatch, thing)


class HeardRows(WatchCase):
    def test_comings_and_goings(self):
        book = self.book(land(0, "wood"), spot(1, "hare"), watchers=[("", "", "comes"), ("", "", "goes")])
        self.assertEqual(book.tell(spot(3, "hare", OUT)),
                         ("taken", comes(1, "hare", "wood"), [(0, (1, "hare", "comes", "wood"))]))
        self.assertEqual(book.wait(4), (goes(3, "hare", "wood"), [(1, (3, "hare", "goes", "wood"))]))

    def test_thing_and_land_have_to_fit(self):
        watchers = [(thing, name, "comes") for thing in ("", "fox", "hare") for name in ("", "moor", "wood")]
        book = self.book(land(0, "moor"), land(0, "wood"), spot(1, "fox"), spot(1, "hare"), watchers=watchers)
        rows, heard = book.wait(2)
        self.assertEqual(rows, comes(1, "fox", "moor", "wood") + comes(1, "hare", "moor", "wood"))
        wanted = []
        for row in rows:
            wanted += [(number, row) for number, watcher in enumerate(watchers)
                       if watcher[0] in ("", row[1]) and watcher[1] in ("", row[3])]
        self.assertEqual(heard, wanted)
        self.assertEqual(len(heard), 16)

    def test_a_thing_and_a_land_called_alike(self):
        book = self.book(land(0, "a"), land(0, "b"), spot(1, "a"), spot(1, "b"),
                         watchers=[("a", "", "comes"), ("", "a", "comes"), ("b", "a", "comes")])
        self.assertEqual(book.wait(2)[1], [
            (0, (1, "a", "comes", "a")), (1, (1, "a", "comes", "a")), (0, (1, "a", "comes", "b")),
            (1, (1, "b", "comes", "a")), (2, (1, "b", "comes", "a"))])

    def test_only_what_is_settled_while_it_is_there(self):
        book = self.book(land(0, "wood"), spot(1, "hare"), spot(5, "hare", OUT), late=2)
        self.assertEqual(book.rows(), comes(1, "hare", "wood"))
        number = book.watch("hare", "wood", "comes")
        other = book.watch("hare", "wood", "goes")
        self.assertEqual(book.tell(spot(8, "hare"))[2], [(other, (5, "hare", "goes", "wood"))])
        book.unwatch(number)
        self.assertEqual(book.tell(spot(20, "hare", OUT))[1:], (comes(8, "hare", "wood"), []))
        self.assertEqual(book.wait(30), (goes(20, "hare", "wood"), [(other, (20, "hare", "goes", "wood"))]))

    def test_put_ahead_of_the_settling_of_what_was_told_already(self):
        book = self.book(land(0, "wood"), spot(1, "hare"), late=9)
        book.watch("", "", "comes")
        self.assertEqual(book.wait(50)[1], [(0, (1, "hare", "comes", "wood"))])

    def test_late_and_again_are_heard_by_none(self):
        book = self.book(land(0, "wood"), spot(1, "hare"), spot(5, "hare"), watchers=[("", "", "comes"), ("", "", 1)])
        self.assertEqual(book.tell(spot(1, "hare")), ("late", [], []))
        self.assertEqual(book.tell(spot(5, "hare")), ("again", [], []))
        self.assertEqual(book.wait(5), ([], []))

    def test_order_of_time_row_and_number(self):
        book = self.book(land(0, "wood"), land(0, "a", "wood"), spot(1, "hare"), spot(1, "fox"), spot(3, "fox", OUT),
                         late=99, watchers=[("", "", "goes"), ("", "a", "comes"), ("", "", "comes"), ("fox", "", "goes")])
        rows, heard = book.wait(200)
        self.assertEqual(rows, comes(1, "fox", "wood", "a") + comes(1, "hare", "wood", "a") + goes(3, "fox", "a", "wood"))
        self.assertEqual(heard, [(2, rows[0]), (1, rows[1]), (2, rows[1]), (2, rows[2]), (1, rows[3]), (2, rows[3]),
                                 (0, rows[4]), (3, rows[4]), (0, rows[5]), (3, rows[5])])

    def test_a_row_goes_by_its_own_order_and_not_by_name(self):
        # Out of the inner b, then of the outer a: not by the names of the lands.
        book = self.book(land(0, "a"), land(0, "b", "a"), spot(1, "hare"), spot(2, "hare", OUT), watchers=[("", "", "goes")])
        self.assertEqual(book.wait(3)[1], [(0, (2, "hare", "goes", "b")), (0, (2, "hare", "goes", "a"))])


class HeardStays(WatchCase):
    def test_heard_at_begin_and_number_once(self):
        for long in (1, 2, 5, 100, LAST - 2):
            book = self.book(land(0, "wood"), spot(1, "hare"), watchers=[("", "", long)])
            self.assertEqual(book.wait(1 + long), (comes(1, "hare", "wood"), []))
            self.assertEqual(book.wait(2 + long), ([], [(0, stays(1 + long, "hare", "wood"))]))
            self.assertEqual(book.wait(LAST), ([], []))

    def test_by_the_edge_and_not_by_the_clock(self):
        book = self.book(land(0, "wood"), spot(1, "hare"), late=10, watchers=[("", "", 3)])
        self.assertEqual(book.wait(14), (comes(1, "hare", "wood"), []))
        self.assertEqual(book.wait(15), ([], [(0, stays(4, "hare", "wood"))]))

    def test_one_that_ends_just_then(self):
        book = self.book(land(0, "wood"), spot(1, "hare"), spot(5, "hare", OUT), watchers=[("", "", 4), ("", "", 5), ("", "", 3)])
        self.assertEqual(book.cut()[1], 5)
        self.assertEqual(book.wait(20), (goes(5, "hare", "wood"), [(0, stays(5, "hare", "wood"))]))
        late = self.book(land(0, "wood"), spot(1, "hare"), spot(5, "hare", OUT), late=50,
                         watchers=[("", "", 4), ("", "", 5), ("", "", 3)])
        self.assertEqual(late.wait(90)[1], [(2, stays(4, "hare", "wood")), (0, stays(5, "hare", "wood"))])

    def test_one_that_ends_earlier(self):
        for end in (drop(4, "wood"), free(4, "hare"), spot(4, "hare", OUT)):
            book = self.book(land(0, "wood"), spot(1, "hare"), end, watchers=[("", "", 4), ("", "", 3)])
            self.assertEqual(book.wait(50)[1], [(1, stays(4, "hare", "wood"))])

    def test_goes_on_while_between(self):
        book = self.book(land(0, "wood"), spot(1, "hare"), spot(2, "hare", BETWEEN), spot(3, "hare"), late=9,
                         watchers=[("", "", 4)])
        self.assertEqual(book.wait(50)[1], [(0, stays(5, "hare", "wood"))])

    def test_begun_ahead_of_the_watchers_putting(self):
        book = self.book(land(0, "wood"), spot(1, "hare"))
        book.wait(4)
        self.assertEqual([book.watch("", "", long) for long in (1, 2, 3, 4)], [0, 1, 2, 3])
        # The edge is 4: 1 + 1 and 1 + 2 lie below it already, 1 + 3 doesn't.
        self.assertEqual(book.wait(20), ([], [(2, stays(4, "hare", "wood")), (3, stays(5, "hare", "wood"))]))

    def test_at_the_edge_when_it_was_put(self):
        for put, heard in ((4, True), (5, True), (6, False)):
            book = self.book(land(0, "wood"), spot(1, "hare"))
            book.wait(put)
            book.watch("hare", "wood", 4)
            self.assertEqual(book.wait(30)[1], [(0, stays(5, "hare", "wood"))] if heard else [])

    def test_taken_away_it_hears_no_more(self):
        book = self.book(land(0, "wood"), spot(1, "hare"), watchers=[("", "", 4), ("", "", 4)])
        book.wait(4)
        book.unwatch(0)
        self.assertEqual(book.wait(30)[1], [(1, stays(5, "hare", "wood"))])

    def test_each_stay_by_itself(self):
        book = self.book(land(0, "wood"), spot(1, "hare"), spot(4, "hare", OUT), spot(6, "hare"), spot(7, "hare", OUT),
                         spot(10, "hare"), late=99, watchers=[("", "", 2)])
        self.assertEqual(book.wait(200)[1], [(0, stays(3, "hare", "wood")), (0, stays(12, "hare", "wood"))])

    def test_freed_and_told_again(self):
        book = self.book(land(0, "wood"), spot(1, "hare"), free(4, "hare"), spot(4, "hare"), late=99,
                         watchers=[("", "", 2), ("", "", 3), ("", "", 4)])
        self.assertEqual(book.wait(200)[1], [
            (0, stays(3, "hare", "wood")), (1, stays(4, "hare", "wood")), (0, stays(6, "hare", "wood")),
            (1, stays(7, "hare", "wood")), (2, stays(8, "hare", "wood"))])

    def test_begun_and_ended_at_one_time(self):
        book = self.book(spot(1, "hare"), land(4, "wood"), free(4, "hare"), late=9, watchers=[("", "", 1)])
        self.assertEqual(book.wait(50), (comes(4, "hare", "wood") + goes(4, "hare", "wood"), []))
        book = self.book(spot(1, "hare"), land(4, "wood"), free(4, "hare"), spot(4, "hare"), late=9, watchers=[("", "", 1)])
        self.assertEqual(book.wait(50)[1], [(0, stays(5, "hare", "wood"))])

    def test_a_land_told_anew_while_it_stays(self):
        book = self.book(land(0, "wood"), spot(1, "hare"), land(3, "wood", "", wobble=0), drop(4, "wood"), land(5, "wood"),
                         late=9, watchers=[("", "", 3)])
        self.assertEqual(book.wait(50)[1], [(0, stays(4, "hare", "wood")), (0, stays(8, "hare", "wood"))])

    def test_thing_and_land_have_to_fit(self):
        watchers = [(thing, name, 2) for thing in ("", "fox", "hare") for name in ("", "moor", "wood")]
        book = self.book(land(0, "moor"), land(0, "wood"), spot(1, "fox"), spot(1, "hare"), watchers=watchers)
        found = book.wait(20)[1]
        wanted = []
        for thing in ("fox", "hare"):
            for name in ("moor", "wood"):
                wanted += [(number, stays(3, thing, name)) for number, watcher in enumerate(watchers)
                           if watcher[0] in ("", thing) and watcher[1] in ("", name)]
        self.assertEqual(found, wanted)

    def test_the_greatest_number(self):
        book = self.book(land(0, "wood"), spot(0, "hare"), watchers=[("", "", LAST), ("", "", LAST - 1)])
        self.assertEqual(book.wait(LAST), (comes(0, "hare", "wood"), [(1, stays(LAST - 1, "hare", "wood"))]))


class HeardInOrder(WatchCase):
    def test_at_one_time_stays_first_then_row_by_row(self):
        # At 6: fox and hare have stayed five in the wood, the hare goes, the owl comes; the fox stays on.
        book = self.book(
            land(0, "wood"), land(0, "a", "wood"), spot(1, "hare"), spot(1, "fox"), spot(6, "hare", OUT), spot(6, "owl"),
            late=99, watchers=[("", "", "goes"), ("", "wood", 5), ("", "", "comes"), ("", "", 5), ("owl", "", "comes")])
        rows, heard = book.wait(200)
        six = [pair for pair in heard if pair[1][0] == 6]
        self.assertEqual(six, [
            (3, stays(6, "fox", "a")), (1, stays(6, "fox", "wood")), (3, stays(6, "fox", "wood")),
            (3, stays(6, "hare", "a")), (1, stays(6, "hare", "wood")), (3, stays(6, "hare", "wood")),
            (0, (6, "hare", "goes", "a")), (0, (6, "hare", "goes", "wood")),
            (2, (6, "owl", "comes", "wood")), (4, (6, "owl", "comes", "wood")),
            (2, (6, "owl", "comes", "a")), (4, (6, "owl", "comes", "a"))])
        self.assertEqual(heard, sorted(heard, key=lambda pair: pair[1][0]))
        self.assertEqual([pair[1] for pair in heard if pair[0] in (0, 2)], rows)

    def test_stays_of_unlike_lengths_due_at_one_time(self):
        book = self.book(land(0, "wood"), spot(1, "hare"), spot(2, "fox"), spot(3, "a"), late=99,
                         watchers=[("hare", "", 7), ("", "", 5), ("", "", 6), ("fox", "", 6)])
        found = [pair for pair in book.wait(200)[1] if pair[1][0] == 8]
        self.assertEqual(found, [(1, stays(8, "a", "wood")), (2, stays(8, "fox", "wood")), (3, stays(8, "fox", "wood")),
                                 (0, stays(8, "hare", "wood"))])

    def test_between_rows_of_other_times(self):
        book = self.book(land(0, "wood"), spot(1, "hare"), spot(3, "fox"), spot(9, "hare", OUT), late=99,
                         watchers=[("", "", 4), ("", "", "comes"), ("", "", "goes")])
        self.assertEqual(book.wait(200)[1], [
            (1, (1, "hare", "comes", "wood")), (1, (3, "fox", "comes", "wood")), (0, stays(5, "hare", "wood")),
            (0, stays(7, "fox", "wood")), (2, (9, "hare", "goes", "wood"))])

    def test_all_at_once_or_step_by_step_the_same(self):
        tellings = [land(0, "wood"), land(0, "a", "wood"), spot(1, "hare"), spot(2, "fox"), spot(5, "hare", OUT),
                    spot(6, "hare"), land(7, "far", "", FAR), spot(8, "fox", (25, 25)), free(9, "hare"), drop(11, "far")]
        watchers = [("", "", "comes"), ("", "", "goes")] + [("", "", long) for long in range(1, 9)]
        wanted = self.book(*tellings, late=1000, watchers=watchers).wait(1100)
        for pace in (1, 2, 3, 7):
            book = self.book(*tellings, late=1000, watchers=watchers)
            rows, heard = [], []
            for time in list(range(1000, 1100, pace)) + [1100]:
                new = book.wait(time)
                rows += new[0]
                heard += new[1]
                book = book_of(book.cut())
            self.assertEqual((rows, heard), wanted)


if __name__ == "__main__":
    unittest.main()
