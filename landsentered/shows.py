"""Papers that show how deep a spot lies in a shape."""

from landsentered.boxes import is_any_spot, square, steps, steps_to
from landsentered.covers import covered, holds_cover
from landsentered.depths import depth, nearest
from landsentered.shapes import lies_in
from landsentered.wholes import is_whole


def shown(shape, spot):
    deep = depth(shape, spot)
    other = nearest(shape, spot)
    if deep < 0:
        return ("out", -deep, other)
    return ("in", deep, other, covered(shape, square(spot, deep - 1))[1])


def shows_depth(shape, spot, thing):
    if not isinstance(thing, tuple) or len(thing) < 3 or not is_away(spot, thing[1], thing[2]):
        return False
    if len(thing) == 4 and thing[0] == "in":
        return not lies_in(shape, thing[2]) and holds_cover(shape, square(spot, thing[1] - 1), thing[3])
    if len(thing) == 3 and thing[0] == "out":
        return lies_in(shape, thing[2]) and none_nearer(shape, spot, thing[1])
    return False


def is_away(spot, d, other):
    return is_whole(d) and d >= 1 and is_any_spot(other) and steps(spot, other) == d


def none_nearer(shape, spot, d):
    return all([steps_to(box, spot) >= d for box in shape])
