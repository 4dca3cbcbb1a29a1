"""Tellings carried along: moved, turned, put off and called otherwise."""

from landsentered.errors import Clash, NoTelling, NoTurn
from landsentered.tellings import is_name, is_telling
from landsentered.wholes import is_whole

# The bits of a turn.
X_SIGN = 1
Y_SIGN = 2
EXCHANGED = 4
LAST_TURN = 7


def moved(tellings, dx, dy):
    return checked([with_spots(telling, lambda spot: (spot[0] + dx, spot[1] + dy)) for telling in tellings])


def turned(tellings, number):
    if not is_whole(number) or not 0 <= number <= LAST_TURN:
        raise NoTurn("a turn is a whole number from 0 to 7")
    return [with_spots(telling, lambda spot: turned_spot(spot, number)) for telling in tellings]


def put_off(tellings, by):
    return checked([telling[:1] + (telling[1] + by,) + telling[2:] for telling in tellings])


def called(tellings, things, lands):
    if not are_names(things) or not are_names(lands):
        raise Clash("a name is called by what is none, or what is none is called")
    if clashes(names_of_things(tellings), things) or clashes(names_of_lands(tellings), lands):
        raise Clash("two unlike names become one")
    return [called_otherwise(telling, things, lands) for telling in tellings]


def checked(tellings):
    if not all([is_telling(telling) for telling in tellings]):
        raise NoTelling("a time or a spot would lie out of its bounds")
    return tellings


def with_spots(telling, change):
    if telling[0] == "spot":
        return telling[:3] + (change(telling[3]),)
    if telling[0] == "land":
        return telling[:4] + (tuple([with_corners(box, change) for box in telling[4]]), telling[5])
    return telling


# Behind a turn the corners that were low and high may be any two that face each other.
def with_corners(box, change):
    one = change(box[0])
    other = change(box[1])
    low = (min(one[0], other[0]), min(one[1], other[1]))
    high = (max(one[0], other[0]), max(one[1], other[1]))
    return (low, high)


def turned_spot(spot, number):
    x = -spot[0] if number & X_SIGN else spot[0]
    y = -spot[1] if number & Y_SIGN else spot[1]
    return (y, x) if number & EXCHANGED else (x, y)


def are_names(names):
    return all([is_name(name) for name in list(names.keys()) + list(names.values())])


def clashes(names, others):
    return len(set([others.get(name, name) for name in names])) < len(set(names))


def names_of_things(tellings):
    return [telling[2] for telling in tellings if telling[0] in ("free", "spot")]


def names_of_lands(tellings):
    names = [telling[2] for telling in tellings if telling[0] in ("land", "drop")]
    return names + [telling[3] for telling in tellings if telling[0] == "land" and telling[3] != ""]


# No dict of names has "" as a key, so a land without outer stays one.
def called_otherwise(telling, things, lands):
    name = telling[2]
    if telling[0] in ("free", "spot"):
        return telling[:2] + (things.get(name, name),) + telling[3:]
    if telling[0] == "drop":
        return telling[:2] + (lands.get(name, name),)
    outer = telling[3]
    return telling[:2] + (lands.get(name, name), lands.get(outer, outer)) + telling[4:]
