"""Watchers, tuples (thing, land, what) by their numbers, and what they hear."""

from landsentered.staying import is_so_long
from landsentered.tellings import LAST_TIME, is_name_or_empty
from landsentered.wholes import is_whole


def is_watcher(thing, land, what):
    return is_name_or_empty(thing) and is_name_or_empty(land) and is_what(what)


def is_what(thing):
    return thing in ("comes", "goes") or (is_whole(thing) and 1 <= thing <= LAST_TIME)


# Sorting keeps the order of what has one time: stays go first, then row by row.
def heard_of(watchers, stays, rows, before, edge):
    told = stays_heard(watchers, stays, before, edge)
    for row in rows:
        told.extend([(number, row) for number in sorted(watchers) if hears(watchers[number], row)])
    return sorted(told, key=lambda pair: pair[1][0])


def stays_heard(watchers, stays, before, edge):
    told = []
    for number in sorted(watchers):
        due = [row for row in stay_rows(watchers[number], stays) if before <= row[0] < edge]
        told.extend([(number, row) for row in due])
    return sorted(told, key=lambda pair: (pair[1], pair[0]))


def stay_rows(watcher, stays):
    number = watcher[2]
    if not is_whole(number):
        return []
    rows = [(stay[2] + number, stay[0], "stays", stay[1]) for stay in stays if is_so_long(stay, number)]
    return [row for row in rows if fits(watcher, row)]


def hears(watcher, row):
    return watcher[2] == row[2] and fits(watcher, row)


def fits(watcher, row):
    return watcher[0] in ("", row[1]) and watcher[1] in ("", row[3])
