"""The desk: a book that is told rows of words, and answers each with a text."""

from landsentered.book import Book
from landsentered.boxes import is_spot
from landsentered.depths import depth
from landsentered.errors import NoLand, NoName, NoRow
from landsentered.history import lands_of
from landsentered.tellings import is_name
from landsentered.texts import number_of, read_spot, show_tellings, telling_of


def say_telling(book, row):
    telling = telling_of(row)
    if telling is None:
        raise NoRow("this begins as a telling's line and is none")
    answer = book.tell(telling)
    return in_lines(answer[0], answer[1], answer[2])


def say_wait(book, words):
    answer = book.wait(asked_number(words[1]))
    return in_lines("waited", answer[0], answer[1])


def say_watch(book, words):
    what = words[3] if words[3] in ("comes", "goes") else asked_number(words[3])
    return str(book.watch(name_or_any(words[1]), name_or_any(words[2]), what))


def say_unwatch(book, words):
    book.unwatch(asked_number(words[1]))
    return "ok"


def say_clock(book, words):
    return "none" if book.clock() is None else str(book.clock())


def say_edge(book, words):
    return str(book.edge())


def say_rows(book, words):
    return "\n".join([in_words(row) for row in book.rows()]) or "none"


def say_open_ones(book, words):
    return show_tellings(book.open_ones()) or "none"


def say_who(book, words):
    land = asked_land(book, words[1])[0]
    return names_or_none([known[0] for known in book.view()[1] if land in lands_of(known)])


def say_where(book, words):
    thing = asked_name(words[1])
    found = []
    for known in book.view()[1]:
        if known[0] == thing:
            found = lands_of(known)
    return names_or_none(found)


def say_depth(book, words):
    spot = read_spot(words[2])
    if not is_spot(spot):
        raise NoRow("no spot is written so")
    return str(depth(asked_land(book, words[1])[2], spot))


def say_lands(book, words):
    return names_or_none([row[0] for row in book.view()[0]])


# How many words a row has that begins with the word.
COUNTS = {
    "wait": 2, "watch": 4, "unwatch": 2, "clock": 1, "edge": 1, "rows": 1, "open": 1, "who": 2, "where": 2,
    "depth": 3, "lands": 1,
}
ANSWERS = {
    "wait": say_wait, "watch": say_watch, "unwatch": say_unwatch, "clock": say_clock, "edge": say_edge,
    "rows": say_rows, "open": say_open_ones, "who": say_who, "where": say_where, "depth": say_depth,
    "lands": say_lands,
}


class Desk:
    def __init__(self, late):
        self.book = Book(late)

    def say(self, row):
        if not isinstance(row, str):
            raise NoRow("a row is a text")
        words = row.split(" ")
        if words[0] in ("land", "drop", "free", "spot"):
            return say_telling(self.book, row)
        if COUNTS.get(words[0]) != len(words):
            raise NoRow("no row begins so, or has so many words")
        return ANSWERS[words[0]](self.book, words)


def asked_number(word):
    number = number_of(word)
    if number is None:
        raise NoRow("no number is written so")
    return number


def asked_name(word):
    if not is_name(word):
        raise NoName("this is no name")
    return word


def name_or_any(word):
    return "" if word == "-" else asked_name(word)


def asked_land(book, word):
    name = asked_name(word)
    for row in book.view()[0]:
        if row[0] == name:
            return row
    raise NoLand("there is no such land")


def names_or_none(names):
    return " ".join(names) or "none"


def in_lines(word, rows, heard):
    lines = [in_words(row) for row in rows] + [in_words((pair[0],) + pair[1]) for pair in heard]
    return "\n".join([word] + lines)


def in_words(row):
    return " ".join([str(part) for part in row])
