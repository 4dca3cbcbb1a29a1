"""Stays: from the coming of a thing into a land to its going."""

from landsentered.history import EMPTY, history


def stays(tellings):
    return stays_behind(EMPTY, history(tellings))


# The stays that a view holds go first, then those that begin with one of the rows, by their comings.
def stays_behind(view, rows):
    told = begun(view)
    latest = dict([((told[k][0], told[k][1]), k) for k in range(len(told))])
    for row in rows:
        place = (row[1], row[3])
        if row[2] == "comes":
            latest[place] = len(told)
            told.append(place + (row[0], None))
        else:
            ended = told[latest[place]]
            told[latest[place]] = ended[:3] + (row[0],)
    return told


def begun(view):
    told = []
    for known in view[1]:
        told.extend([(known[0], stay[0], stay[1], None) for stay in known[2]])
    return told


def is_so_long(stay, number):
    return stay[3] is None or stay[3] - stay[2] >= number
