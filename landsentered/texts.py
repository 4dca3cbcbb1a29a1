"""Tellings written as lines of a text, and read back."""

from landsentered.errors import NoText
from landsentered.tellings import is_telling

MOST_FIGURES = 60


def show_tellings(tellings):
    return "\n".join([line_of(telling) for telling in tellings])


def read_tellings(text):
    if not isinstance(text, str):
        raise NoText(0)
    if text == "":
        return []
    lines = text.split("\n")
    told = [telling_of(line) for line in lines]
    if None in told:
        raise NoText(told.index(None))
    return told


def line_of(telling):
    if telling[0] == "land":
        words = [telling[0], str(telling[1]), telling[2], telling[3] or "-", str(telling[5])]
        return " ".join(words + [show_box(box) for box in telling[4]])
    words = [telling[0], str(telling[1]), telling[2]]
    return " ".join(words + [show_spot(spot) for spot in telling[3:]])


def show_box(box):
    return "..".join([show_spot(spot) for spot in box])


def show_spot(spot):
    return ",".join([str(number) for number in spot])


# What is read wrongly becomes None somewhere within, and so no telling.
def telling_of(line):
    found = read_words(line.split(" "))
    return found if is_telling(found) else None


def read_words(words):
    if words[0] == "land" and len(words) > 5:
        shape = tuple([read_box(word) for word in words[5:]])
        return ("land", number_of(words[1]), words[2], read_outer(words[3]), shape, number_of(words[4]))
    if words[0] == "spot" and len(words) == 4:
        return ("spot", number_of(words[1]), words[2], read_spot(words[3]))
    if words[0] in ("drop", "free") and len(words) == 3:
        return (words[0], number_of(words[1]), words[2])
    return None


# A word without signs would pass for no outer, but is none.
def read_outer(word):
    if word == "":
        return None
    return "" if word == "-" else word


def read_box(word):
    return tuple([read_spot(part) for part in word.split("..")])


def read_spot(word):
    return tuple([number_of(part) for part in word.split(",")])


def number_of(word):
    figures = word[1:] if word.startswith("-") else word
    if not are_figures(figures) or (figures.startswith("0") and word != "0"):
        return None
    return int(word)


# So many are looked at as a number at all: Python itself reads no number of some thousand figures.
def are_figures(text):
    return 1 <= len(text) <= MOST_FIGURES and all(["0" <= sign <= "9" for sign in text])
