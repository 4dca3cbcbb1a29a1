"""Names, times and tellings, and which tellings count, in order."""

from landsentered.boxes import is_spot
from landsentered.shapes import is_shape
from landsentered.wholes import is_short, is_whole

MOST_LETTERS = 8
LAST_TIME = 1000000000000

# At one time lands' tellings go first, then freeings, then spots.
RANKS = {"land": 0, "drop": 0, "free": 1, "spot": 2}


def is_name(thing):
    if not isinstance(thing, str) or not 1 <= len(thing) <= MOST_LETTERS:
        return False
    return all(["a" <= sign <= "z" for sign in thing])


def is_time(thing):
    return is_whole(thing) and 0 <= thing <= LAST_TIME


def is_telling(thing):
    if not isinstance(thing, tuple) or len(thing) < 3:
        return False
    if not is_time(thing[1]) or not is_name(thing[2]):
        return False
    if thing[0] == "land":
        return len(thing) == 6 and is_name_or_empty(thing[3]) and is_shape(thing[4]) and is_wobble(thing[5])
    if thing[0] == "spot":
        return len(thing) == 4 and is_spot(thing[3])
    return len(thing) == 3 and thing[0] in ("drop", "free")


def is_name_or_empty(thing):
    return thing == "" or is_name(thing)


def is_wobble(thing):
    return is_short(thing) and thing >= 0


# Of those that have one place the least comes first, and it alone counts.
def in_order(tellings):
    counting = {}
    for telling in sorted(tellings):
        counting.setdefault(place_of(telling), telling)
    return [counting[place] for place in sorted(counting)]


def place_of(telling):
    return (telling[1], RANKS[telling[0]], telling[2])


# Unlike in_order this keeps those that don't count, lesser ones ahead.
def all_in_order(tellings):
    return sorted(tellings, key=lambda telling: (place_of(telling), telling))
