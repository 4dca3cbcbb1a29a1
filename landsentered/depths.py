"""How deep a spot lies in a shape, where the other side is nearest, and the side by a wobble."""

from landsentered.boxes import common, left_over, square, steps_between, steps_to
from landsentered.shapes import lies_in


def depth(shape, spot):
    away = steps_away(other_side(shape, spot), spot)
    return away if lies_in(shape, spot) else -away


def nearest(shape, spot):
    pieces = other_side(shape, spot)
    reach = square(spot, steps_away(pieces, spot))
    return min([common(piece, reach)[0] for piece in pieces if steps_between(piece, reach) == 0])


# By the square of the wobble, which takes far fewer pieces than the depth does.
def side(shape, wobble, spot):
    if left_over(square(spot, wobble), shape) == []:
        return "in"
    if steps_away(shape, spot) > wobble:
        return "out"
    return "between"


def other_side(shape, spot):
    if lies_in(shape, spot):
        return left_over(frame(shape), shape)
    return list(shape)


# One step beyond the shape all round is enough: what lies farther out than that has, seen from a
# spot within, a nearer spot one step beyond the shape ahead of it.
def frame(shape):
    low = (min([box[0][0] for box in shape]) - 1, min([box[0][1] for box in shape]) - 1)
    high = (max([box[1][0] for box in shape]) + 1, max([box[1][1] for box in shape]) + 1)
    return (low, high)


def steps_away(pieces, spot):
    return min([steps_to(piece, spot) for piece in pieces])
