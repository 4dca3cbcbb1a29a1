import copy
import random
import unittest

from landsentered.book import Book, book_of
from landsentered.errors import NoTelling, NoTime, TooMany
from landsentered.history import EMPTY, history, view_at
from tests.helper import (BETWEEN, FAR, IN, LAST, NO_TIMES, ODD_THINGS, OUT, TEN, SlowBook, as_lists, comes, deep, drop,
                          free, goes, in_time, land, random_worlds, some_time_late, spot, whole)

NO_TELLINGS = ODD_THINGS + [
    "spot", "spot 5 hare 2,3", ("spot", 5, "hare"), ("spot", 5, "hare", (2, 3), 0), ["spot", 5, "hare", (2, 3)],
    ("spot", 5, "hare", [2, 3]), ("spot", True, "hare", (2, 3)), ("spot", 5, "Hare", (2, 3)), ("spot", -1, "hare", (2, 3)),
    ("spot", LAST + 1, "hare", (2, 3)), ("spot", 5, "hare", (LAST, 0)), ("drop", 5, ""), ("free", 5), ("lands", 5, "wood"),
    ("land", 5, "wood", "", TEN), ("land", 5, "wood", "", TEN, -1), ("land", 5, "wood", "", as_lists(TEN), 1),
    ("land", 5, "wood", "", (), 1), ("land", 5, "wood", None, TEN, 1), (spot(5, "hare"),), deep(spot(5, "hare"), 27)]


def told(book):
    """All that a book tells of itself."""
    return book.clock(), book.edge(), book.rows(), book.view(), book.open_ones(), book.cut()


class BookCase(unittest.TestCase):
    def refused(self, error, book, call, *things):
        """Just this refusal, and nothing is changed by it, the thing handed in neither."""
        before = copy.deepcopy(told(book))
        kept = copy.deepcopy(things)
        with self.assertRaises(error) as met:
            call(*things)
        self.assertIs(met.exception.__class__, error)
        self.assertEqual(told(book), before)
        self.assertEqual(things, kept)

    def idle(self, word, book, telling):
        """Told with two empty lists, and nothing is changed by it."""
        before = copy.deepcopy(told(book))
        self.assertEqual(book.tell(telling), (word, [], []))
        self.assertEqual(told(book), before)

    def taken(self, book, telling, rows=(), heard=()):
        self.assertEqual(book.tell(telling), ("taken", list(rows), list(heard)))


class Lateness(BookCase):
    def test_a_new_book(self):
        for late in (0, 1, 7, LAST):
            book = Book(late)
            self.assertIsNone(book.clock())
            self.assertEqual(told(book), (None, 0, [], EMPTY, [], (late, None, EMPTY, (), (), 0)))

    def test_what_is_no_lateness(self):
        for thing in NO_TIMES + [thing for thing in ODD_THINGS if not (whole(thing) and thing in (0, 1))]:
            with self.assertRaises(NoTime) as met:
                Book(thing)
            self.assertIs(met.exception.__class__, NoTime)

    def test_the_edge_is_the_clock_less_the_lateness(self):
        for late, time, edge in ((0, 0, 0), (0, 5, 5), (5, 4, 0), (5, 5, 0), (5, 6, 1), (5, LAST, LAST - 5), (LAST, LAST, 0),
                                 (LAST, 3, 0), (LAST - 1, LAST, 1), (0, LAST, LAST)):
            for deed in (lambda book: book.wait(time), lambda book: book.tell(spot(time, "hare"))):
                book = Book(late)
                deed(book)
                self.assertEqual((book.clock(), book.edge()), (time, edge))

    def test_the_clock_is_the_greatest_time(self):
        book = Book(10)
        for time, clock in ((20, 20), (15, 20), (10, 20), (9, 20), (21, 21), (30, 30), (20, 30)):
            book.tell(spot(time, "hare"))
            self.assertEqual((book.clock(), book.edge()), (clock, clock - 10))
        book.wait(35)
        book.tell(spot(33, "hare"))
        self.assertEqual(book.clock(), 35)

    def test_what_is_too_late_moves_no_clock(self):
        book = Book(0)
        self.idle_at_first(book)
        book.wait(9)
        self.idle("late", book, spot(8, "hare"))
        self.assertEqual(book.clock(), 9)

    def idle_at_first(self, book):
        self.assertIsNone(book.clock())
        self.assertEqual(book.edge(), 0)


class Tell(BookCase):
    def test_at_the_edge_below_and_above(self):
        book = Book(5)
        book.wait(20)
        self.idle("late", book, spot(14, "hare"))
        self.taken(book, spot(15, "hare"))
        self.taken(book, spot(16, "hare"))
        self.assertEqual(book.open_ones(), [spot(15, "hare"), spot(16, "hare")])
        self.idle("late", book, spot(0, "hare"))
        self.taken(book, spot(20, "hare"))
        self.taken(book, spot(21, "hare"))
        self.assertEqual(book.edge(), 16)
        self.idle("late", book, spot(15, "hare"))
        self.idle("again", book, spot(16, "hare"))

    def test_time_nought(self):
        book = Book(0)
        self.taken(book, spot(0, "hare"))
        self.idle("again", book, spot(0, "hare"))
        self.assertEqual(told(book)[:2], (0, 0))
        self.taken(book, spot(1, "hare"))
        self.idle("late", book, spot(0, "hare"))

    def test_the_last_time(self):
        book = Book(0)
        self.taken(book, land(0, "wood"))
        self.taken(book, spot(LAST, "hare"))
        self.assertEqual(book.edge(), LAST)
        self.taken(book, spot(LAST, "fox"))
        self.idle("late", book, spot(LAST - 1, "hare"))
        self.idle("again", book, spot(LAST, "hare"))
        self.assertEqual(book.rows(), [])

    def test_again(self):
        book = Book(LAST)
        some = [land(3, "wood"), spot(2, "hare"), free(2, "hare"), drop(9, "wood")]
        for telling in some:
            self.taken(book, telling)
        for telling in some + some[::-1]:
            self.idle("again", book, telling)
        self.taken(book, spot(2, "fox"))

    def test_again_of_what_does_not_count(self):
        book = Book(9)
        for telling in (spot(4, "hare", (1, 1)), spot(4, "hare", (7, 7)), drop(4, "wood"), land(4, "wood"),
                        land(4, "wood", "", TEN, 7)):
            self.taken(book, telling)
            self.idle("again", book, telling)
        self.assertEqual(len(book.open_ones()), 5)
        for telling in book.open_ones():
            self.idle("again", book, telling)

    def test_settled_and_told_again_is_late(self):
        book = Book(2)
        self.taken(book, spot(4, "hare"))
        self.idle("again", book, spot(4, "hare"))
        book.wait(6)
        self.idle("again", book, spot(4, "hare"))
        book.wait(7)
        self.idle("late", book, spot(4, "hare"))

    def test_what_is_no_telling(self):
        for late, clock in ((0, None), (5, 20), (LAST, 7)):
            book = Book(late)
            if clock is not None:
                book.tell(land(clock, "wood"))
                book.tell(spot(clock, "hare"))
            for thing in NO_TELLINGS:
                self.refused(NoTelling, book, book.tell, thing)

    def test_two_hundred_open_ones(self):
        book = Book(5)
        book.wait(100)
        for k in range(200):
            self.taken(book, spot(95 + k % 6, "hare", (k, 0)))
        self.assertEqual(len(book.open_ones()), 200)
        for telling in (spot(97, "hare", (200, 0)), land(95, "wood"), free(100, "hare"), spot(5000, "hare")):
            self.refused(TooMany, book, book.tell, telling)
        self.idle("late", book, spot(94, "hare"))
        self.idle("late", book, land(0, "wood"))
        self.idle("again", book, spot(95, "hare", (0, 0)))
        self.idle("again", book, spot(96, "hare", (199, 0)))
        for thing in NO_TELLINGS:
            self.refused(NoTelling, book, book.tell, thing)
        self.assertEqual(book.wait(101), ([], []))
        self.assertLess(len(book.open_ones()), 200)
        while len(book.open_ones()) < 200:
            self.taken(book, spot(101, "hare", (-len(book.open_ones()), 0)))
        self.refused(TooMany, book, book.tell, spot(101, "fox"))

    def test_two_hundred_at_unlike_times(self):
        book = Book(LAST)
        for k in range(200):
            self.taken(book, spot(k, "hare"))
        self.refused(TooMany, book, book.tell, spot(200, "hare"))
        self.refused(TooMany, book, book.tell, spot(LAST, "hare"))
        self.idle("again", book, spot(199, "hare"))
        self.assertEqual(book.clock(), 199)

    def test_rows_as_they_are_settled(self):
        book = Book(3)
        self.taken(book, spot(4, "hare"))
        self.taken(book, land(2, "wood"))
        self.taken(book, spot(6, "hare", OUT))
        self.assertEqual(book.rows(), [])
        self.taken(book, spot(7, "fox"))
        self.taken(book, spot(8, "fox", BETWEEN), comes(4, "hare", "wood"))
        self.taken(book, spot(9, "fox", OUT))
        self.taken(book, spot(20, "fox"), goes(6, "hare", "wood") + comes(7, "fox", "wood") + goes(9, "fox", "wood"))
        wanted = comes(4, "hare", "wood") + goes(6, "hare", "wood") + comes(7, "fox", "wood") + goes(9, "fox", "wood")
        self.assertEqual(book.rows(), wanted)
        self.assertEqual(book.open_ones(), [spot(20, "fox")])

    def test_none_is_told_before_it_is_settled(self):
        book = Book(3)
        book.tell(land(0, "wood"))
        self.taken(book, spot(5, "hare"))
        self.taken(book, spot(8, "fox", OUT))
        self.assertEqual((book.edge(), book.rows()), (5, []))
        self.taken(book, spot(5, "hare", OUT))
        self.taken(book, spot(9, "fox", OUT))
        self.assertEqual(book.rows(), [])
        self.assertEqual(book.view()[1], (("hare", OUT, ()),))

    def test_all_kinds_at_one_settled_time(self):
        book = Book(0)
        some = [drop(4, "a"), land(4, "c"), free(4, "n"), spot(4, "p"), spot(4, "n", (6, 6)), spot(4, "m", (25, 25))]
        before = [land(0, "a"), land(0, "b", "", FAR), spot(1, "m"), spot(1, "n"), spot(1, "o", (25, 25))]
        for telling in before + some[::-1]:
            self.assertEqual(book.tell(telling)[0], "taken")
        rows = book.wait(5)[0]
        self.assertEqual(rows, history(before + some)[3:])
        self.assertEqual(book.view(), view_at(before + some, 4))


class Wait(BookCase):
    def test_with_no_clock_yet(self):
        for time in (0, 1, 30, LAST):
            book = Book(5)
            self.assertEqual(book.wait(time), ([], []))
            self.assertEqual((book.clock(), book.edge()), (time, max(0, time - 5)))

    def test_greater_equal_and_lesser(self):
        book = Book(0)
        book.tell(land(0, "wood"))
        book.tell(spot(3, "hare"))
        for time in (0, 1, 2, 3):
            before = told(book)
            self.assertEqual(book.wait(time), ([], []))
            self.assertEqual(told(book), before)
        self.assertEqual(book.wait(4), (comes(3, "hare", "wood"), []))
        self.assertEqual(book.wait(4), ([], []))
        self.assertEqual(book.wait(3), ([], []))
        self.assertEqual((book.clock(), book.rows()), (4, comes(3, "hare", "wood")))
        self.assertEqual(book.wait(LAST), ([], []))
        self.assertEqual(book.edge(), LAST)

    def test_what_is_no_time(self):
        for clock in (None, 0, 7):
            book = Book(3)
            if clock is not None:
                book.tell(spot(clock, "hare"))
            for thing in NO_TIMES + [thing for thing in ODD_THINGS if not (whole(thing) and thing in (0, 1))]:
                self.refused(NoTime, book, book.wait, thing)

    def test_views_behind_all_that_is_settled(self):
        some = [land(2, "wood"), spot(4, "hare"), spot(7, "hare", OUT), drop(9, "wood"), free(9, "hare")]
        book = Book(3)
        for telling in some:
            book.tell(telling)
        for time in range(9, 20):
            book.wait(time)
            self.assertEqual(book.view(), view_at([t for t in some if t[1] < time - 3], LAST))
            self.assertEqual(book.open_ones(), [t for t in some if t[1] >= time - 3])

    def test_open_ones_in_order(self):
        book = Book(LAST)
        wanted = [spot(1, "z"), drop(2, "a"), land(2, "a"), land(2, "a", "", TEN, 2), land(2, "a", "b", FAR), drop(2, "b"),
                  land(2, "c"), free(2, "a"), free(2, "b"), spot(2, "a", (-4, 9)), spot(2, "a", (0, 0)), spot(2, "a", (0, 1)),
                  spot(2, "aa", (-9, 0)), spot(2, "b", (-9, 0)), land(10, "a"), spot(LAST, "a")]
        chance = random.Random(111)
        for _ in range(20):
            book = Book(LAST)
            some = list(wanted)
            chance.shuffle(some)
            for telling in some:
                self.taken(book, telling)
            self.assertEqual(book.open_ones(), wanted)


class Cut(BookCase):
    def test_of_a_new_book(self):
        for late in (0, 5, LAST):
            self.assertEqual(Book(late).cut(), (late, None, EMPTY, (), (), 0))
            other = book_of(Book(late).cut())
            self.assertIsInstance(other, Book)
            self.assertEqual(told(other), told(Book(late)))

    def test_in_the_midst(self):
        book = Book(3)
        for telling in (land(2, "wood"), spot(9, "fox"), spot(4, "hare"), spot(10, "hare", OUT), spot(10, "hare", IN)):
            self.assertEqual(book.tell(telling)[0], "late" if telling[1] == 4 else "taken")
        book.watch("hare", "", "goes")
        book.watch("", "wood", 5)
        book.watch("", "", "comes")
        book.unwatch(0)
        wanted = (3, 10, (((("wood", "", TEN, 1)),), ()), (spot(9, "fox"), spot(10, "hare", OUT), spot(10, "hare")),
                  ((1, "", "wood", 5), (2, "", "", "comes")), 3)
        self.assertEqual(book.cut(), wanted)
        other = book_of(wanted)
        self.assertEqual(other.cut(), wanted)
        self.assertEqual(other.rows(), [])
        self.assertEqual(other.watch("", "", "goes"), 3)
        self.assertEqual(book.watch("", "", "goes"), 3)
        self.assertEqual(other.wait(40), book.wait(40))
        self.assertEqual(other.cut(), book.cut())

    def test_its_rows_begin_with_none(self):
        book = Book(0)
        for telling in (land(0, "wood"), spot(1, "hare"), spot(2, "hare", OUT)):
            book.tell(telling)
        self.assertEqual(book.rows(), comes(1, "hare", "wood"))
        other = book_of(book.cut())
        self.assertEqual(other.rows(), [])
        self.assertEqual(other.wait(5), (goes(2, "hare", "wood"), []))
        self.assertEqual(other.rows(), goes(2, "hare", "wood"))

    def test_two_books_of_one_cut_go_their_own_ways(self):
        book = Book(5)
        book.tell(land(0, "wood"))
        book.watch("", "", 2)
        cut = book.cut()
        first, second = book_of(cut), book_of(cut)
        first.tell(spot(3, "hare"))
        first.unwatch(0)
        first.wait(20)
        self.assertEqual(cut, book.cut())
        self.assertEqual(second.cut(), cut)
        self.assertEqual(second.open_ones(), [land(0, "wood")])
        self.assertEqual(first.rows(), comes(3, "hare", "wood"))

    def test_what_is_open_is_told_again(self):
        book = Book(5)
        book.tell(spot(3, "hare"))
        book.wait(8)
        other = book_of(book.cut())
        self.idle("again", other, spot(3, "hare"))
        self.idle("late", other, spot(2, "hare"))
        full = Book(LAST)
        for k in range(200):
            full.tell(spot(k, "hare"))
        again = book_of(full.cut())
        self.refused(TooMany, again, again.tell, spot(200, "hare"))


class AgainstTheWords(BookCase):
    """Books beside those that keep all and reckon anew each time."""

    def some_watcher(self, chance):
        what = chance.choice(["comes", "goes", 1, 2, 3, 5, 9])
        return chance.choice(["", "", "a", "fox", "hare"]), chance.choice(["", "", "a", "b", "wood"]), what

    def deed(self, chance, book, slow):
        """Now and then another deed than a telling."""
        if chance.random() < 0.1 and len(slow.there) < 20:
            watcher = self.some_watcher(chance)
            self.assertEqual(book.watch(*watcher), slow.watch(*watcher))
        if chance.random() < 0.03 and slow.there:
            number = chance.choice(list(slow.there))
            slow.unwatch(number)
            self.assertIsNone(book.unwatch(number))
        if chance.random() < 0.1:
            time = max(0, (slow.now or 0) + chance.randint(-2, 3))
            self.assertEqual(book.wait(time), slow.wait(time))

    def test_step_by_step(self):
        chance = random.Random(112)
        words, heard_words = {}, {}
        for world in random_worlds(113, 80, lasts=(6, 20, 40)):
            late = chance.choice([0, 1, 3, 8, LAST])
            book, slow, cuts = Book(late), SlowBook(late), 0
            for what in ("comes", "goes", chance.randint(1, 5)):
                self.assertEqual(book.watch("", "", what), slow.watch("", "", what))
            for telling in some_time_late(chance, world, min(late, 8) + 1):
                self.deed(chance, book, slow)
                found = book.tell(telling)
                self.assertEqual(found, slow.tell(telling))
                words[found[0]] = words.get(found[0], 0) + 1
                for _, row in found[2]:
                    heard_words[row[2]] = heard_words.get(row[2], 0) + 1
                if chance.random() < 0.05:
                    book, cuts = book_of(book.cut()), len(slow.rows())
                self.assertEqual(book.cut(), slow.cut())
                self.assertEqual((book.clock(), book.edge()), (slow.now, slow.edge()))
                self.assertEqual(book.rows(), slow.rows()[cuts:])
                self.assertEqual((book.view(), book.open_ones()), (slow.view(), slow.open_ones()))
            self.assertEqual(book.wait(LAST), slow.wait(LAST))
            self.assertEqual(book.cut(), slow.cut())
        self.assertGreater(min(words[word] for word in ("late", "again", "taken")), 20)
        self.assertGreater(min(heard_words[word] for word in ("comes", "goes", "stays")), 20)

    def test_cut_anywhere_and_gone_on_all_the_same(self):
        chance = random.Random(114)
        for world in random_worlds(115, 30, lasts=(6, 20)):
            late = chance.choice([0, 2, 6])
            some = some_time_late(chance, world, late + 1)
            plain, often, rows = Book(late), Book(late), []
            for k, telling in enumerate(some):
                if k % 7 == 0:
                    watcher = self.some_watcher(chance)
                    self.assertEqual(plain.watch(*watcher), often.watch(*watcher))
                again = book_of(often.cut())
                self.assertEqual(again.cut(), often.cut())
                self.assertEqual(again.rows(), [])
                often = again
                found = plain.tell(telling)
                self.assertEqual(often.tell(telling), found)
                self.assertEqual(often.rows(), found[1])
                rows += often.rows()
            often = book_of(often.cut())
            self.assertEqual(often.wait(LAST), plain.wait(LAST))
            self.assertEqual(rows + often.rows(), plain.rows())
            self.assertEqual(often.cut(), plain.cut())


class Promise(BookCase):
    def test_told_in_time_a_book_has_the_rows_of_the_history(self):
        chance = random.Random(116)
        for world in random_worlds(117, 80):
            late = chance.choice([0, 1, 4, 20, LAST])
            book = Book(late)
            wanted = history(world)
            some = in_time(chance, world, late)
            rows = []
            for k, telling in enumerate(some):
                word, new, _ = book.tell(telling)
                self.assertIn(word, ("taken", "again"))
                rows += new
                self.assertEqual(book.rows(), rows)
                self.assertEqual(rows, [row for row in wanted if row[0] < book.edge()])
            rows += book.wait(LAST)[0]
            self.assertEqual(rows, [row for row in wanted if row[0] < LAST - late])
            self.assertEqual(book.view(), view_at([t for t in world if t[1] < LAST - late], LAST))

    def test_in_unlike_orders_the_same_rows_and_the_same_cut(self):
        chance = random.Random(118)
        for world in random_worlds(119, 60):
            late = chance.choice([1, 4, 20])
            books = [Book(late), Book(late)]
            waits = [("wait", chance.randint(0, 25)) for _ in range(3)]
            for book in books:
                for deed in in_time(chance, world + waits, late):
                    if deed[0] == "wait":
                        book.wait(deed[1])
                    else:
                        self.assertNotEqual(book.tell(deed)[0], "late")
            self.assertEqual(books[0].rows(), books[1].rows())
            self.assertEqual(books[0].cut(), books[1].cut())

    def test_too_late_changes_nothing(self):
        chance = random.Random(120)
        met = 0
        for world in random_worlds(121, 60):
            late = chance.choice([0, 2])
            chance.shuffle(world)
            book, taken = Book(late), []
            for telling in world:
                if telling[1] < book.edge():
                    self.idle("late", book, telling)
                    met += 1
                else:
                    taken.append(telling)
                    book.tell(telling)
            book.wait(LAST)
            self.assertEqual(book.rows(), history(taken))
        self.assertGreater(met, 100)

    def test_as_soon_as_the_clock_is_more_than_the_lateness_behind(self):
        for late in (0, 1, 5):
            book = Book(late)
            book.tell(land(0, "wood"))
            book.tell(spot(7, "hare"))
            for time in range(8, 7 + late + 1):
                self.assertEqual(book.wait(time), ([], []))
            self.assertEqual(book.wait(7 + late), ([], []))
            self.assertEqual(book.wait(7 + late + 1), (comes(7, "hare", "wood"), []))


class Apart(BookCase):
    def test_the_told_is_the_askers(self):
        book = Book(0)
        book.watch("", "", "comes")
        for telling in (land(0, "wood"), spot(1, "hare")):
            book.tell(telling)
        first = book.tell(spot(5, "hare", OUT))
        self.assertEqual(first, ("taken", comes(1, "hare", "wood"), [(0, (1, "hare", "comes", "wood"))]))
        kept = told(book)
        wanted = copy.deepcopy(kept)
        for found in (first[1], first[2], book.rows(), book.open_ones()):
            found.clear()
            found.append(None)
        self.assertEqual(told(book), wanted)
        second = book.wait(9)
        second[0].clear()
        second[1].append(1)
        self.assertEqual(book.rows(), comes(1, "hare", "wood") + goes(5, "hare", "wood"))
        self.assertEqual(kept, wanted)
        for found in (book.wait(9), book.tell(spot(0, "hare"))[1:], book.tell(spot(9, "hare"))[1:]):
            found[0].append(1)
            found[1].append(1)
        self.assertEqual(book.wait(9), ([], []))
        self.assertEqual(book.tell(spot(0, "hare")), ("late", [], []))
        self.assertEqual(book.tell(spot(9, "hare")), ("again", [], []))

    def test_two_books_are_apart(self):
        first, second = Book(0), Book(0)
        first.watch("", "", 1)
        first.tell(land(0, "wood"))
        first.tell(spot(4, "hare"))
        first.wait(9)
        self.assertEqual(told(second), told(Book(0)))
        self.assertEqual(second.watch("", "", 1), 0)

    def test_asked_twice_the_same(self):
        book = Book(2)
        for telling in (land(0, "wood"), spot(1, "hare"), spot(5, "hare", OUT)):
            book.tell(telling)
        self.assertEqual(told(book), told(book))


if __name__ == "__main__":
    unittest.main()
