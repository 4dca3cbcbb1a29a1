import random
import re
import unittest

from landsentered.errors import NoText
from landsentered.shapes import shape_of
from landsentered.tellings import is_telling
from landsentered.texts import read_tellings, show_tellings
from tests.helper import (FIVE, LAST, MOST, NO_NAMES, NO_TEXTS, ODD_THINGS, TEN, drop, free, land, random_shape, random_worlds,
                          spot, unchanged)

LINES = {
    "land 5 wood - 2 0,-1..3,4": ("land", 5, "wood", "", (((0, -1), (3, 4)),), 2),
    "land 0 glade wood 0 -3,-4..-1,-2 0,-2..0,0": ("land", 0, "glade", "wood", (((-3, -4), (-1, -2)), ((0, -2), (0, 0))), 0),
    "land 1000000000000 a a 999999999999 0,0..0,0": ("land", LAST, "a", "a", (((0, 0), (0, 0)),), MOST),
    "drop 7 wood": ("drop", 7, "wood"),
    "free 1000000000000 hare": ("free", LAST, "hare"),
    "spot 0 abcdefgh 2,-3": ("spot", 0, "abcdefgh", (2, -3)),
    "spot 10 z -999999999999,999999999999": ("spot", 10, "z", (-MOST, MOST)),
    "spot 90 land 0,0": ("spot", 90, "land", (0, 0)),
}
NUMBER = r"(?:0|-?[1-9][0-9]*)"
PLACE = f"{NUMBER},{NUMBER}"
FORM = (rf"land {NUMBER} [a-z]+ (?:-|[a-z]+) {NUMBER}(?: {PLACE}\.\.{PLACE}){{1,6}}|(?:drop|free) {NUMBER} [a-z]+"
        rf"|spot {NUMBER} [a-z]+ {PLACE}")


def slow_read(line):
    """A line by its form, then by its numbers; None where it is none."""
    if not re.fullmatch(FORM, line) or re.search("[0-9]{14}", line):
        return None
    word, time, name, *rest = line.split(" ")
    if word == "land":
        numbers = [[int(figures) for figures in re.findall(r"-?[0-9]+", box)] for box in rest[2:]]
        shape = tuple(((a, b), (c, d)) for a, b, c, d in numbers)
        found = ("land", int(time), name, rest[0].strip("-"), shape, int(rest[1]))
    elif word == "spot":
        found = ("spot", int(time), name, tuple(int(figures) for figures in rest[0].split(",")))
    else:
        found = (word, int(time), name)
    return found if is_telling(found) else None


class TextCase(unittest.TestCase):
    def refused(self, line, text):
        def told(again):
            with self.assertRaises(NoText) as met:
                read_tellings(again)
            self.assertIs(met.exception.__class__, NoText)
            return met.exception.line
        found = unchanged(self, told, text)
        self.assertEqual(found, line, text)
        self.assertIs(found.__class__, int)

    def none(self, line):
        """No line of a telling: alone, ahead of others, between them and behind them."""
        self.assertIsNone(slow_read(line), line)
        self.refused(0, line if line else "\n")
        self.refused(0, line + "\ndrop 7 wood")
        self.refused(1, "drop 7 wood\n" + line)
        self.refused(2, "drop 7 wood\nspot 1 hare 2,3\n" + line + "\nfree 1 hare")


class Written(TextCase):
    def test_line_by_line(self):
        for line, telling in LINES.items():
            self.assertEqual(unchanged(self, show_tellings, [telling]), line)
            self.assertEqual(unchanged(self, read_tellings, line), [telling])

    def test_lines_in_their_order(self):
        self.assertEqual(show_tellings(list(LINES.values())), "\n".join(LINES))
        self.assertEqual(read_tellings("\n".join(LINES)), list(LINES.values()))
        self.assertEqual(show_tellings(list(LINES.values())[::-1]), "\n".join(list(LINES)[::-1]))

    def test_none(self):
        self.assertEqual(unchanged(self, show_tellings, []), "")
        self.assertEqual(unchanged(self, read_tellings, ""), [])

    def test_some_several_times(self):
        some = [drop(7, "wood"), drop(7, "wood"), spot(1, "hare"), drop(7, "wood")]
        self.assertEqual(show_tellings(some), "drop 7 wood\ndrop 7 wood\nspot 1 hare 5,5\ndrop 7 wood")
        self.assertEqual(read_tellings(show_tellings(some)), some)

    def test_six_boxes(self):
        shape = tuple(((k, 0), (k, 9)) for k in range(6))
        line = "land 3 wood - 1 0,0..0,9 1,0..1,9 2,0..2,9 3,0..3,9 4,0..4,9 5,0..5,9"
        self.assertEqual(show_tellings([land(3, "wood", "", shape)]), line)
        self.assertEqual(read_tellings(line), [land(3, "wood", "", shape)])

    def test_what_is_written_is_read_back(self):
        chance = random.Random(141)
        for world in random_worlds(142, 60, lasts=(3, 1000, LAST)):
            text = unchanged(self, show_tellings, world)
            found = unchanged(self, read_tellings, text)
            self.assertEqual(found, world)
            self.assertEqual(show_tellings(found), text)
            self.assertEqual([slow_read(line) for line in text.split("\n") if text], world)
        for _ in range(60):
            some = [land(1, "wood", "", random_shape(chance, 6, -4, 6, 4), chance.randint(0, MOST))]
            found = read_tellings(show_tellings(some))
            self.assertEqual(found, some)
            self.assertEqual(shape_of(found[0][4]), found[0][4])

    def test_many_lines(self):
        some = [spot(k, "hare", (k, -k)) for k in range(300)]
        self.assertEqual(read_tellings(show_tellings(some)), some)
        self.refused(300, show_tellings(some) + "\nspot 300 hare 0,-0")

    def test_the_told_list_is_the_askers(self):
        found = read_tellings("drop 7 wood")
        found.clear()
        self.assertEqual(read_tellings("drop 7 wood"), [drop(7, "wood")])
        read_tellings("").append(1)
        self.assertEqual(read_tellings(""), [])


class NoLines(TextCase):
    def test_what_is_no_text(self):
        for thing in [thing for thing in ODD_THINGS if not isinstance(thing, str)] + [["drop 7 wood"], ("drop 7 wood",),
                                                                                     drop(7, "wood"), {"drop 7 wood": 0}]:
            self.refused(0, thing)

    def test_blanks_doubled_or_at_an_end(self):
        for line in LINES:
            self.none(" " + line)
            self.none(line + " ")
            for k, sign in enumerate(line):
                if sign == " ":
                    self.none(line[:k] + " " + line[k:])
                    self.none(line[:k] + line[k + 1:])
                    self.none(line[:k] + "\t" + line[k + 1:])

    def test_a_word_less_and_a_word_more(self):
        for line in LINES:
            words = line.split(" ")
            for k in range(len(words)):
                less = " ".join(words[:k] + words[k + 1:])
                if not (words[0] == "land" and len(words) > 6 and k >= 5):
                    self.none(less)
            for more in ("0", "a", "-", "0,0", ""):
                for k in range(len(words) + 1):
                    self.none(" ".join(words[:k] + [more] + words[k:]))
        self.none("land 5 wood - 2")
        self.none("drop 7 wood 0,0")
        self.none("spot 1 hare 2,3 4,5")
        self.none("free")

    def test_seven_boxes(self):
        self.assertEqual(len(read_tellings("land 5 wood - 2" + " 0,0..1,1" * 6)[0][4]), 6)
        self.none("land 5 wood - 2" + " 0,0..1,1" * 7)

    def test_boxes_that_make_no_chain(self):
        for boxes in ("0,0..1,1 3,0..4,0", "0,0..1,1 0,3..1,4", "0,0..1,1 2,2..3,3 9,9..9,9", "1,0..0,1", "0,1..1,0",
                      "0,0..1,1 1,1..0,0", "0,0..-1,-1"):
            self.none("land 5 wood - 2 " + boxes)

    def test_numbers_that_are_not_so_written(self):
        wrong = ["00", "01", "007", "-0", "-00", "-01", "+0", "+1", "+", "-", "--1", "1-", "", "1.", "1.0", "0x1", "1e3", "1_0",
                 "a", "1a", ".", "1,", "1 ", "1\t", "~", "9" * 13, "-" + "9" * 13, "9" * 61, "9" * 5000]
        forms = ["land N wood - 2 0,-1..3,4", "land 5 wood - N 0,-1..3,4", "land 5 wood - 2 N,-1..3,4", "land 5 wood - 2 0,N..3,4",
                 "land 5 wood - 2 0,-1..N,4", "land 5 wood - 2 0,-1..3,N", "drop N wood", "free N hare", "spot N hare 2,3",
                 "spot 5 hare N,3", "spot 5 hare 2,N"]
        for form in forms:
            for number in wrong:
                self.none(form.replace("N", number))

    def test_times_and_numbers_beyond_their_bounds(self):
        for word in ("drop N wood", "free N hare", "spot N hare 2,3", "land N wood - 2 0,0..1,1"):
            self.assertEqual(read_tellings(word.replace("N", "0"))[0][1], 0)
            self.assertEqual(read_tellings(word.replace("N", "1000000000000"))[0][1], LAST)
            for time in ("-1", "1000000000001", "9999999999999", "1" + "0" * 59, "1" + "0" * 60):
                self.none(word.replace("N", time))
        for place in ("1000000000000,0", "0,1000000000000", "-1000000000000,0", "0,-1000000000000"):
            self.none(f"spot 5 hare {place}")
            self.none(f"land 5 wood - 2 {place}..{place}")
        for wobble in ("-1", "1000000000000"):
            self.none(f"land 5 wood - {wobble} 0,0..1,1")

    def test_names_that_are_none(self):
        for name in NO_NAMES:
            if "\n" not in name and " " not in name:
                self.none(f"drop 7 {name}")
                self.none(f"free 7 {name}")
                self.none(f"spot 7 {name} 2,3")
                self.none(f"land 7 {name} - 2 0,0..1,1")
                if name != "-":
                    self.none(f"land 7 wood {name} 2 0,0..1,1")
        self.none("land 7 wood  2 0,0..1,1")
        self.none("land 7 wood -- 2 0,0..1,1")
        self.none("land 7 wood -a 2 0,0..1,1")

    def test_another_word_and_capital_letters(self):
        for line in LINES:
            rest = line[line.index(" "):]
            for word in ("", "Land", "DROP", "lands", "spo", "wait", "0", "-", "clock"):
                self.none(word + rest)
            self.none(line.upper())
            self.none(line.capitalize())
        for line in ("spot", "wait 5", "a", "~", "hello there", "drop 7 Wood", "none"):
            self.none(line)
        self.none("spot 7 wood")
        self.none("drop 7 wood 2,3")

    def test_spots_and_boxes_not_so_written(self):
        for place in ("2", "2,", ",3", ",", "2,3,4", "2,,3", "2;3", "2, 3", "(2,3)", "2.3", "2,3..4,5", "2,3.", ".2,3", "", "-"):
            self.none(f"spot 5 hare {place}")
        for box in ("0,0", "0,0..", "..1,1", "0,0.1,1", "0,0...1,1", "0,0....1,1", "0,0..1,1..", "0,0..1,1..2,2", "0..1", "0,0,1,1",
                    "0,0..1", "0..1,1", "0,0,0..1,1,1", "0,0-1,1", "0,0..1,1,", "..", ".", "-", "0,0 ..1,1", "0,0.. 1,1"):
            self.none(f"land 5 wood - 2 {box}")
            self.none(f"land 5 wood - 2 0,0..1,1 {box}")

    def test_empty_lines(self):
        self.refused(0, "\n")
        self.refused(0, "\n\n\n")
        self.refused(0, "\ndrop 7 wood")
        self.refused(1, "drop 7 wood\n")
        self.refused(1, "drop 7 wood\n\n")
        self.refused(1, "drop 7 wood\n\nfree 1 hare")
        self.refused(2, "drop 7 wood\nfree 1 hare\n")
        self.refused(0, " ")
        self.refused(0, "\n ")

    def test_the_first_such_line(self):
        self.refused(1, "drop 7 wood\nwrong\n\nwrong")
        self.refused(0, "wrong\nwrong\ndrop 7 wood")
        self.refused(3, "drop 7 wood\n" * 3 + "drop 07 wood\ndrop 7 wood\n")

    def test_one_sign_changed_anywhere(self):
        chance = random.Random(143)
        signs = "0123456789-,. abzZ+\n~"
        for _ in range(3000):
            line = chance.choice(list(LINES))
            k = chance.randrange(len(line) + 1)
            sign = chance.choice(signs)
            text = chance.choice([line[:k] + sign + line[k:], line[:k] + sign + line[k + 1:], line[:k] + line[k + 1:]])
            wanted = [slow_read(part) for part in text.split("\n")]
            if None in wanted:
                self.refused(wanted.index(None), text)
            else:
                self.assertEqual(read_tellings(text), wanted)

    def test_texts_of_ten_thousand_signs(self):
        self.refused(0, "9" * 10000)
        self.refused(0, " " * 10000)
        self.refused(0, "\n" * 10000)
        self.refused(0, "drop " + "9" * 9990 + " a")
        self.refused(0, "drop 1 " + "a" * 9990)
        self.refused(0, "spot 1 a 1," + "9" * 9980)
        self.refused(0, "land 1 a - 1" + " 0,0..1,1" * 1000)

    def test_the_words_of_the_document(self):
        self.assertEqual(read_tellings("land 0 a - 0 0,-1..3,4"), [land(0, "a", "", (((0, -1), (3, 4)),), 0)])
        self.assertEqual(show_tellings([land(0, "a", "b", TEN + FIVE, 3), free(2, "c")]),
                         "land 0 a b 3 0,0..10,10 0,0..5,5\nfree 2 c")
        self.assertEqual(read_tellings("drop 1 a")[0], drop(1, "a"))
        for thing in NO_TEXTS:
            self.refused(0, thing)


if __name__ == "__main__":
    unittest.main()
