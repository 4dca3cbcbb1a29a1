import copy
import random
import unittest

from landsentered.book import Book
from landsentered.depths import depth
from landsentered.desk import Desk
from landsentered.errors import LandError, NoLand, NoName, NoRow, NoTime, NoWatch, TooMany
from landsentered.texts import show_tellings
from tests.helper import (LAST, NO_NAMES, NO_TIMES, ODD_THINGS, TEN, random_worlds, some_time_late, spot, unchanged, whole)

# Land within land, one thing that comes and goes, one that stays; all of it settled but the last row.
STORY = ["land 0 wood - 1 0,0..10,10", "land 0 glade wood 1 2,2..8,8", "land 0 moor - 1 20,20..30,30",
         "spot 1 hare 5,5", "spot 2 fox 1,5", "spot 3 owl 50,50", "spot 4 hare -9,5", "spot 5 bat 5,5", "spot 9 fox 5,5"]
ROWS = ["1 hare comes wood", "1 hare comes glade", "2 fox comes wood", "4 hare goes glade", "4 hare goes wood",
        "5 bat comes wood", "5 bat comes glade"]
ASKING = ["clock", "edge", "rows", "open", "lands", "where hare", "where fox", "where owl", "where bat"]


def told(desk):
    """All that a desk tells of itself."""
    return [desk.say(row) for row in ASKING]


class DeskCase(unittest.TestCase):
    def desk(self, *rows, late=0):
        desk = Desk(late)
        for row in rows:
            desk.say(row)
        return desk

    def refused(self, error, desk, row):
        """Just this refusal, twice, and nothing is changed by it."""
        before, kept = told(desk), copy.deepcopy(row)
        for _ in range(2):
            with self.assertRaises(error) as met:
                desk.say(row)
            self.assertIs(met.exception.__class__, error, row)
        self.assertEqual(told(desk), before)
        self.assertEqual(row, kept)


class Made(DeskCase):
    def test_what_is_no_lateness(self):
        for thing in NO_TIMES + [thing for thing in ODD_THINGS if not (whole(thing) and thing in (0, 1))]:
            with self.assertRaises(NoTime) as met:
                Desk(thing)
            self.assertIs(met.exception.__class__, NoTime)

    def test_a_new_desk(self):
        for late in (0, 5, LAST):
            self.assertEqual(told(Desk(late)), ["none", "0", "none", "none", "none", "none", "none", "none", "none"])

    def test_two_desks_are_apart(self):
        first, second = Desk(0), Desk(0)
        for row in STORY:
            first.say(row)
        self.assertEqual(told(second), told(Desk(0)))


class Tellings(DeskCase):
    def test_words_and_rows(self):
        desk = Desk(0)
        self.assertEqual([desk.say(row) for row in STORY[:3]], ["taken"] * 3)
        self.assertEqual(desk.say("spot 1 hare 5,5"), "taken")
        self.assertEqual(desk.say("spot 1 hare 5,5"), "again")
        self.assertEqual(desk.say("land 0 wood - 1 0,0..10,10"), "late")
        self.assertEqual(desk.say("spot 2 fox 1,5"), "taken\n1 hare comes wood\n1 hare comes glade")
        self.assertEqual(desk.say("free 4 hare"), "taken\n2 fox comes wood")
        self.assertEqual(desk.say("drop 5 wood"), "taken\n4 hare goes glade\n4 hare goes wood")
        self.assertEqual(desk.say("wait 6"), "waited\n5 fox goes wood")
        self.assertEqual(desk.say("wait 6"), "waited")
        self.assertEqual(desk.say("wait 0"), "waited")

    def test_heard_ones_behind_the_rows(self):
        desk = Desk(0)
        self.assertEqual([desk.say(row) for row in ("watch - - comes", "watch hare wood goes", "watch - glade 3")],
                         ["0", "1", "2"])
        answers = [desk.say(row) for row in STORY]
        self.assertEqual(answers, [
            "taken", "taken", "taken", "taken",
            "taken\n1 hare comes wood\n1 hare comes glade\n0 1 hare comes wood\n0 1 hare comes glade",
            "taken\n2 fox comes wood\n0 2 fox comes wood", "taken",
            "taken\n4 hare goes glade\n4 hare goes wood\n2 4 hare stays glade\n1 4 hare goes wood",
            "taken\n5 bat comes wood\n5 bat comes glade\n0 5 bat comes wood\n0 5 bat comes glade\n2 8 bat stays glade"])
        self.assertEqual(desk.say("wait 20"), "waited\n9 fox comes glade\n0 9 fox comes glade\n2 12 fox stays glade")

    def test_begins_as_a_tellings_line_and_is_none(self):
        desk = self.desk(*STORY)
        for row in ("land", "drop", "free", "spot", "spot 9", "spot 9 hare", "spot 9 hare 1", "spot 9 hare 1,2 3", "drop 9 wood x",
                    "spot 09 hare 1,2", "spot 9 Hare 1,2", "spot 9 - 1,2", "spot -1 hare 1,2", "spot 1000000000001 hare 1,2",
                    "spot 9 hare 1000000000000,2", "spot 9 hare 01,2", "spot 9  1,2", " spot 9 hare 1,2", "spot 9 hare 1,2 ",
                    "spot  9 hare 1,2", "spot 9 hare 1,2\n", "spot 9 hare 1,2\nspot 9 fox 1,2", "drop 9 wood\n", "drop 9 Wood",
                    "free 9 ", "free 9", "land 9 wood - 1", "land 9 wood  1 0,0..1,1", "land 9 wood - 1 0,0..1,1 5,5..6,6",
                    "land 9 wood - -1 0,0..1,1", "land 9 wood - 1 1,1..0,0", "land 9 - - 1 0,0..1,1", "drop " + "9" * 61 + " wood",
                    "drop " + "9" * 60 + " wood", "drop " + "9" * 5000 + " wood", "land 9 wood - 1" + " 0,0..1,1" * 7):
            self.refused(NoRow, desk, row)

    def test_too_many_open_ones(self):
        desk = Desk(LAST)
        for k in range(200):
            self.assertEqual(desk.say(f"spot {k} hare 0,0"), "taken")
        self.refused(TooMany, desk, "spot 200 hare 0,0")
        self.refused(NoRow, desk, "spot 200 Hare 0,0")
        self.assertEqual(desk.say("spot 7 hare 0,0"), "again")


class Asked(DeskCase):
    def test_clock_and_edge(self):
        desk = Desk(5)
        for row, clock, edge in (("wait 0", "0", "0"), ("wait 5", "5", "0"), ("spot 6 hare 0,0", "6", "1"), ("wait 3", "6", "1"),
                                 ("wait 1000000000000", "1000000000000", "999999999995")):
            desk.say(row)
            self.assertEqual((desk.say("clock"), desk.say("edge")), (clock, edge))

    def test_rows_and_open_ones(self):
        desk = self.desk(*STORY)
        self.assertEqual(desk.say("rows"), "\n".join(ROWS))
        self.assertEqual(desk.say("open"), "spot 9 fox 5,5")
        desk = self.desk(*STORY, late=LAST)
        self.assertEqual(desk.say("rows"), "none")
        wanted = [STORY[k] for k in (1, 2, 0, 3, 4, 5, 6, 7, 8)]
        self.assertEqual(desk.say("open"), "\n".join(wanted))
        desk.say("drop 0 wood")
        self.assertEqual(desk.say("open"), "\n".join(wanted[:2] + ["drop 0 wood"] + wanted[2:]))

    def test_lands(self):
        desk = self.desk(*STORY)
        self.assertEqual(desk.say("lands"), "glade moor wood")
        self.assertEqual(self.desk("land 3 wood - 1 0,0..1,1").say("lands"), "none")
        desk.say("drop 9 moor")
        desk.say("wait 10")
        self.assertEqual(desk.say("lands"), "glade wood")

    def test_who(self):
        desk = self.desk(*STORY)
        self.assertEqual([desk.say(f"who {name}") for name in ("wood", "glade", "moor")], ["bat fox", "bat", "none"])
        desk.say("wait 10")
        self.assertEqual(desk.say("who glade"), "bat fox")
        for name in ("nowhere", "hare", "a", "woods"):
            self.refused(NoLand, desk, f"who {name}")
        desk.say("drop 10 moor")
        self.assertEqual(desk.say("who moor"), "none")
        desk.say("wait 11")
        self.refused(NoLand, desk, "who moor")
        self.refused(NoLand, self.desk("land 3 wood - 1 0,0..1,1"), "who wood")

    def test_where(self):
        desk = self.desk(*STORY)
        self.assertEqual([desk.say(f"where {name}") for name in ("hare", "fox", "owl", "bat", "nobody", "wood")],
                         ["none", "wood", "none", "glade wood", "none", "none"])
        desk.say("free 9 bat")
        self.assertEqual(desk.say("where bat"), "glade wood")
        desk.say("wait 10")
        self.assertEqual(desk.say("where bat"), "none")

    def test_depth(self):
        desk = self.desk(*STORY)
        for place in ("5,5", "0,0", "-3,5", "999999999999,-999999999999", "10,10", "11,11"):
            at = tuple(int(part) for part in place.split(","))
            self.assertEqual(desk.say(f"depth wood {place}"), str(depth(TEN, at)))
        self.assertEqual(desk.say("depth wood 5,5"), "6")
        self.assertEqual(desk.say("depth glade 5,5"), "4")
        self.assertEqual(desk.say("depth moor 5,5"), "-15")
        for name in ("nowhere", "hare"):
            self.refused(NoLand, desk, f"depth {name} 5,5")
        desk.say("land 9 wood - 1 0,0..2,2")
        self.assertEqual(desk.say("depth wood 5,5"), "6")
        desk.say("wait 10")
        self.assertEqual(desk.say("depth wood 5,5"), "-3")

    def test_watch_and_unwatch(self):
        desk = Desk(0)
        rows = ["watch - - comes", "watch hare - goes", "watch - wood 1", "watch hare wood 1000000000000"]
        self.assertEqual([desk.say(row) for row in rows], ["0", "1", "2", "3"])
        self.assertEqual(desk.say("unwatch 1"), "ok")
        for number in ("1", "4", "-1", "9" * 60):
            self.refused(NoWatch, desk, f"unwatch {number}")
        self.assertEqual(desk.say("unwatch 0"), "ok")
        self.assertEqual(desk.say("watch - - comes"), "4")
        for what in ("0", "-1", "1000000000001", "9" * 60, "-" + "9" * 60):
            self.refused(NoWatch, desk, f"watch - - {what}")
        for number in range(5, 22):
            self.assertEqual(desk.say("watch hare moor 7"), str(number))
        self.refused(TooMany, desk, "watch - - comes")
        self.refused(NoWatch, desk, "watch - - 0")
        self.refused(NoName, desk, "watch A - comes")
        self.refused(NoRow, desk, "watch - - come")

    def test_a_dash_is_any(self):
        desk = self.desk("watch - - comes", "watch fox - comes", "watch - glade comes", *STORY[:5])
        self.assertEqual(desk.say("wait 3"), "waited\n2 fox comes wood\n0 2 fox comes wood\n1 2 fox comes wood")

    def test_what_a_book_refuses(self):
        desk = self.desk(*STORY)
        for number in ("-1", "1000000000001", "9" * 60, "-" + "9" * 60):
            self.refused(NoTime, desk, f"wait {number}")


class NoRows(DeskCase):
    def test_what_is_no_text(self):
        desk = self.desk(*STORY)
        for thing in [thing for thing in ODD_THINGS if not isinstance(thing, str)] + [["clock"], ("wait", "5"), spot(9, "hare"),
                                                                                     {"clock": 0}]:
            self.refused(NoRow, desk, thing)

    def test_another_first_word(self):
        desk = self.desk(*STORY)
        for row in ("", " ", "  ", "\n", "Clock", "CLOCK", "clocks", "cloc", "hello", "say clock", "none", "taken", "0", "-", "cut",
                    "view", "waited 5", "clock\n", "clock\nedge", "\nclock", "wait\n5", "Spot 9 hare 1,2", "lan 9 wood",
                    "~" * 10000, "a " * 5000, " " * 10000, "a" * 10000):
            self.refused(NoRow, desk, row)

    def test_how_many_words(self):
        desk = self.desk(*STORY)
        right = {"wait 20": 2, "watch hare wood comes": 4, "unwatch 0": 2, "clock": 1, "edge": 1, "rows": 1, "open": 1, "who wood": 2,
                 "where hare": 2, "depth wood 5,5": 3, "lands": 1}
        for row, many in right.items():
            words = row.split(" ")
            self.assertEqual(len(words), many)
            for k in range(many):
                self.refused(NoRow, desk, " ".join(words[:k]))
            for more in ("", "a", "0", "-", words[-1]):
                self.refused(NoRow, desk, " ".join(words + [more]))
                self.refused(NoRow, desk, " ".join([more] + words) if more != words[0] else row + " " + row + " " + row)
            self.refused(NoRow, desk, row.replace(" ", "  ") if many > 1 else row + "  ")
            self.refused(NoRow, desk, row + "\n" + row if many == 1 else row.replace(" ", "\n"))

    def test_numbers_not_so_written(self):
        desk = self.desk(*STORY)
        wrong = ["", "00", "01", "-0", "+1", "-", "--1", "1-", "a", "1a", "1.0", "1,0", "1\n", "five", "9" * 61, "-" + "9" * 61,
                 "1" + "0" * 60, "9" * 5000, "0" * 60, "Comes", "stays", "come", "goess"]
        for number in wrong:
            self.refused(NoRow, desk, f"wait {number}")
            self.refused(NoRow, desk, f"unwatch {number}")
            self.refused(NoRow, desk, f"watch - - {number}")
        for number in ("comes", "goes"):
            self.refused(NoRow, desk, f"wait {number}")
            self.refused(NoRow, desk, f"unwatch {number}")

    def test_spots_not_so_written(self):
        desk = self.desk(*STORY)
        for place in ("", "5", "5,", ",5", ",", "5,5,5", "05,5", "5,-0", "+5,5", "5;5", "a,b", "5,5..6,6", "(5,5)", "5,5\n", "-",
                      "1000000000000,0", "0,1000000000000", "-1000000000000,0", "0,-1000000000000", "9" * 60 + ",0",
                      "0," + "9" * 61, "0," + "9" * 5000):
            self.refused(NoRow, desk, f"depth wood {place}")


class NoNames(DeskCase):
    def test_in_each_place(self):
        desk = self.desk(*STORY)
        for name in NO_NAMES:
            if " " not in name:
                for row in ("who {}", "where {}", "depth {} 5,5"):
                    self.refused(NoName, desk, row.replace("{}", name))
                if name != "-":
                    for row in ("watch {} - comes", "watch - {} comes", "watch {} {} 5", "watch hare {} goes", "watch {} wood 1"):
                        self.refused(NoName, desk, row.replace("{}", name))

    def test_words_without_signs(self):
        desk = self.desk(*STORY)
        for row in ("who ", "where ", "depth  5,5", "watch  wood comes", "watch hare  comes", "watch   comes"):
            self.refused(NoName, desk, row)


class WhichGoesFirst(DeskCase):
    def test_no_row_ahead_of_no_name(self):
        desk = self.desk(*STORY)
        for row in ("watch A - come", "watch - A 01", "watch A B " + "9" * 61, "depth A 5", "depth A 05,5", "depth A 1000000000000,5",
                    "depth A", "who A B", "where", "watch A - comes comes", "depth  5", "watch   "):
            self.refused(NoRow, desk, row)

    def test_no_row_ahead_of_no_land(self):
        desk = self.desk(*STORY)
        for row in ("depth nowhere 5", "depth nowhere 1000000000000,0", "who nowhere 5"):
            self.refused(NoRow, desk, row)

    def test_no_name_ahead_of_no_land_and_of_the_books(self):
        desk = self.desk(*STORY)
        self.refused(NoName, desk, "depth Wood 5,5")
        self.refused(NoName, desk, "who Wood")
        for row in ("watch A - 0", "watch - A 0", "watch A A 1000000000001"):
            self.refused(NoName, desk, row)
        for _ in range(20):
            desk.say("watch - - 1")
        for row in ("watch A - 0", "watch - A 1", "watch A A comes"):
            self.refused(NoName, desk, row)
        self.refused(NoWatch, desk, "watch a a 0")
        self.refused(TooMany, desk, "watch a a 1")


class AsTheBook(DeskCase):
    def answer(self, word, rows, heard):
        told = [word] + [f"{time} {thing} {what} {name}" for time, thing, what, name in rows]
        return "\n".join(told + [f"{number} {time} {thing} {what} {name}" for number, (time, thing, what, name) in heard])

    def test_beside_a_book(self):
        chance = random.Random(151)
        for world in random_worlds(152, 40):
            late = chance.choice([0, 2, 6, LAST])
            book, desk = Book(late), Desk(late)
            for what in ("comes", "goes", 2, 5):
                self.assertEqual(desk.say(f"watch - - {what}"), str(book.watch("", "", what)))
            for telling in some_time_late(chance, world, min(late, 6) + 1):
                self.assertEqual(desk.say(show_tellings([telling])), self.answer(*book.tell(telling)))
                if chance.random() < 0.2:
                    time = chance.randint(0, 25)
                    self.assertEqual(desk.say(f"wait {time}"), self.answer("waited", *book.wait(time)))
                self.alike(desk, book)

    def alike(self, desk, book):
        clock = book.clock()
        self.assertEqual(desk.say("clock"), "none" if clock is None else f"{clock}")
        self.assertEqual(desk.say("edge"), f"{book.edge()}")
        rows = "\n".join(f"{time} {thing} {word} {name}" for time, thing, word, name in book.rows())
        self.assertEqual(desk.say("rows"), rows if rows else "none")
        self.assertEqual(desk.say("open"), show_tellings(book.open_ones()) if book.open_ones() else "none")
        lands, things = book.view()
        self.assertEqual(desk.say("lands"), " ".join(row[0] for row in lands) if lands else "none")
        for row in lands:
            inside = [thing for thing, _, stays in things if row[0] in [stay[0] for stay in stays]]
            self.assertEqual(desk.say(f"who {row[0]}"), " ".join(inside) if inside else "none")
            self.assertEqual(desk.say(f"depth {row[0]} 2,3"), f"{depth(row[2], (2, 3))}")
        for thing, _, stays in things:
            inside = [stay[0] for stay in stays]
            self.assertEqual(desk.say(f"where {thing}"), " ".join(inside) if inside else "none")

    def test_asked_again_the_same(self):
        desk = self.desk(*STORY)
        for row in ASKING + ["who wood", "depth wood 1,1"]:
            self.assertEqual(unchanged(self, desk.say, row), desk.say(row))
            self.assertIsInstance(desk.say(row), str)

    def test_all_refusals_are_under_one_class(self):
        desk = Desk(0)
        for row in (None, "", "who A", "who a", "wait -1", "unwatch 0"):
            with self.assertRaises(LandError):
                desk.say(row)


if __name__ == "__main__":
    unittest.main()
