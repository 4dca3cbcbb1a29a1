"""Whole numbers."""

MOST = 999999999999


# A truth is an int to Python, but no whole number here.
def is_whole(thing):
    return isinstance(thing, int) and not isinstance(thing, bool)


def is_short(thing):
    return is_whole(thing) and -MOST <= thing <= MOST
