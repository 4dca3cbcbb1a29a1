"""Spots of the grid, the steps between them, and boxes of spots."""

from landsentered.wholes import is_short, is_whole


# Told spots, so those that papers name, may have more figures than a spot that is handed in.
def is_any_spot(thing):
    return isinstance(thing, tuple) and len(thing) == 2 and is_whole(thing[0]) and is_whole(thing[1])


def is_spot(thing):
    return is_any_spot(thing) and is_short(thing[0]) and is_short(thing[1])


def is_box(thing):
    if not isinstance(thing, tuple) or len(thing) != 2:
        return False
    return is_spot(thing[0]) and is_spot(thing[1]) and has_spots(thing)


# Asked of any two spots low and high, so of cut off pieces too, which may have come out empty.
def has_spots(box):
    return box[0][0] <= box[1][0] and box[0][1] <= box[1][1]


def steps(one, other):
    return max(abs(one[0] - other[0]), abs(one[1] - other[1]))


def has(box, spot):
    return steps_to(box, spot) == 0


def has_all(box, other):
    return has(box, other[0]) and has(box, other[1])


def steps_to(box, spot):
    return steps_between(box, (spot, spot))


# x and y of a spot are free of one another in a box, so the greater of the two ways' gaps is met.
def steps_between(one, other):
    return max(gap(one, other, 0), gap(one, other, 1))


def gap(one, other, way):
    return max(0, other[0][way] - one[1][way], one[0][way] - other[1][way])


def square(spot, r):
    return ((spot[0] - r, spot[1] - r), (spot[0] + r, spot[1] + r))


def up_to(box, way, at):
    high = (at, box[1][1]) if way == 0 else (box[1][0], at)
    return (box[0], high)


def onward_from(box, way, at):
    low = (at, box[0][1]) if way == 0 else (box[0][0], at)
    return (low, box[1])


# Only of two boxes that have a spot in common.
def common(one, other):
    low = (max(one[0][0], other[0][0]), max(one[0][1], other[0][1]))
    high = (min(one[1][0], other[1][0]), min(one[1][1], other[1][1]))
    return (low, high)


# Boxes, none over another one, that have just the spots of one which other hasn't.
def cut_out(one, other):
    if steps_between(one, other) > 0:
        return [one]
    middle = common(one, other)
    left = (one[0], (middle[0][0] - 1, one[1][1]))
    right = ((middle[1][0] + 1, one[0][1]), one[1])
    below = ((middle[0][0], one[0][1]), (middle[1][0], middle[0][1] - 1))
    above = ((middle[0][0], middle[1][1] + 1), (middle[1][0], one[1][1]))
    return [piece for piece in [left, right, below, above] if has_spots(piece)]


def left_over(box, others):
    pieces = [box]
    for other in others:
        rest = []
        for piece in pieces:
            rest.extend(cut_out(piece, other))
        pieces = rest
    return pieces


def spots_in(box):
    return (box[1][0] - box[0][0] + 1) * (box[1][1] - box[0][1] + 1)
