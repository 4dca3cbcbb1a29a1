"""How a view goes on by what is told, the rows that come of it, and the history of tellings."""

from landsentered.looks import level, looked
from landsentered.tellings import in_order

EMPTY = ((), ())


def history(tellings):
    return gone_through(EMPTY, tellings)[1]


def view_at(tellings, time):
    return gone_through(EMPTY, [telling for telling in tellings if telling[1] <= time])[0]


def gone_through(view, tellings):
    at_times = {}
    for telling in tellings:
        at_times.setdefault(telling[1], []).append(telling)
    rows = []
    for time in sorted(at_times):
        step = gone_on(view, at_times[time])
        view = step[0]
        rows.extend(step[1])
    return (view, rows)


def gone_on(view, tellings):
    counting = in_order(tellings)
    first = by_lands(view, [telling for telling in counting if telling[0] in ("land", "drop")])
    second = by_freeings(first[0], [telling for telling in counting if telling[0] == "free"])
    third = by_spots(second[0], [telling for telling in counting if telling[0] == "spot"])
    return (third[0], first[1] + second[1] + third[1])


def by_lands(view, told):
    if told == []:
        return (view, [])
    lands = lands_behind(view[0], told)
    things = []
    rows = []
    for known in view[1]:
        seen = looked_at(lands, known, told[0][1])
        things.append(seen)
        rows.extend(rows_between(known, seen, told[0][1], view[0], lands))
    return ((lands, tuple(things)), rows)


def by_freeings(view, told):
    names = [telling[2] for telling in told]
    rows = []
    for known in view[1]:
        if known[0] in names:
            rows.extend(rows_between(known, in_no_land(known[0], known[1]), told[0][1], view[0], view[0]))
    return ((view[0], tuple([known for known in view[1] if known[0] not in names])), rows)


def by_spots(view, told):
    things = dict([(known[0], known) for known in view[1]])
    rows = []
    for telling in told:
        thing = telling[2]
        known = things.get(thing, in_no_land(thing, telling[3]))
        seen = looked_at(view[0], (thing, telling[3], known[2]), telling[1])
        things[thing] = seen
        rows.extend(rows_between(known, seen, telling[1], view[0], view[0]))
    return ((view[0], tuple(sorted(things.values()))), rows)


# A telling of a land ends with what a view holds of it: its name, outer, shape and wobble.
def lands_behind(lands, told):
    there = dict([(row[0], row) for row in lands])
    for telling in told:
        there.pop(telling[2], None)
        if telling[0] == "land":
            there[telling[2]] = telling[2:]
    return tuple(sorted(there.values()))


def in_no_land(thing, spot):
    return (thing, spot, ())


# A stay that goes on keeps its begin; a new one begins now.
def looked_at(lands, known, time):
    begins = dict(known[2])
    names = looked(lands, list(begins), known[1])
    return (known[0], known[1], tuple([(name, begins.get(name, time)) for name in names]))


# Lands gone out of may be there no more: their levels are those ahead of the part.
def rows_between(known, seen, time, lands_ahead, lands):
    before = lands_of(known)
    behind = lands_of(seen)
    left = sorted([land for land in before if land not in behind], key=lambda land: (-level(lands_ahead, land), land))
    entered = sorted([land for land in behind if land not in before], key=lambda land: (level(lands, land), land))
    goings = [(time, known[0], "goes", land) for land in left]
    return goings + [(time, known[0], "comes", land) for land in entered]


def lands_of(known):
    return [stay[0] for stay in known[2]]
