"""Shapes: chains of one to six boxes."""

from landsentered.boxes import has, is_box, left_over, spots_in, steps_between
from landsentered.errors import NoShape

MOST_BOXES = 6


def is_shape(thing):
    if not isinstance(thing, tuple) or not 1 <= len(thing) <= MOST_BOXES:
        return False
    return all([is_box(box) for box in thing]) and is_chain(thing)


def is_chain(boxes):
    return all([steps_between(boxes[k - 1], boxes[k]) <= 1 for k in range(1, len(boxes))])


def shape_of(things):
    shape = tuple([box_of(thing) for thing in parts_of(things)])
    if not is_shape(shape):
        raise NoShape("these make no chain of one to six boxes")
    return shape


# Whether low, high and their numbers are right is left to is_shape: here only lists become tuples.
def box_of(thing):
    return tuple([tuple(parts_of(corner)) for corner in parts_of(thing)])


def parts_of(thing):
    if not isinstance(thing, (list, tuple)):
        raise NoShape("neither a list nor a tuple")
    return thing


def lies_in(shape, spot):
    return any([has(box, spot) for box in shape])


# Boxes may lie over one another: of each only what those ahead of it haven't is counted.
def size(shape):
    total = 0
    for k in range(len(shape)):
        total += sum([spots_in(piece) for piece in left_over(shape[k], shape[:k])])
    return total
