"""Lands within lands: how far within a land lies, and in which lands a thing is by a look."""

from landsentered.depths import side


# A way that is longer than there are lands comes round.
def level(lands, land):
    outers = dict([(row[0], row[1]) for row in lands])
    at = land
    for many in range(1, len(outers) + 1):
        if at not in outers:
            return None
        at = outers[at]
        if at == "":
            return many
    return None


# Outer lands go first, so that of each land it is known by then whether the thing is in its outer.
def looked(lands, held, spot):
    told = []
    for row in outer_first(lands):
        if (row[1] == "" or row[1] in told) and keeps(row, held, spot):
            told.append(row[0])
    return sorted(told)


def outer_first(lands):
    ranked = [(level(lands, row[0]), row) for row in lands]
    return [pair[1] for pair in sorted([pair for pair in ranked if pair[0] is not None])]


def keeps(row, held, spot):
    found = side(row[2], row[3], spot)
    return found == "in" or (found == "between" and row[0] in held)
