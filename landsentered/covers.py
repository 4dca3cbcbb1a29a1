"""Covers: papers that a shape has all spots of a box."""

from landsentered.boxes import has_all, left_over, onward_from, steps_between, up_to
from landsentered.wholes import is_whole


def covered(shape, box):
    lacking = left_over(box, shape)
    if lacking:
        return ("no", min([piece[0] for piece in lacking]))
    return ("yes", cover_of(shape, box))


# Only of a box whose spots the shape has: so where no box alone has them, an edge runs through it.
# Cut is at the middle edge, so that six boxes make covers of at most nine deep.
def cover_of(shape, box):
    for k in range(len(shape)):
        if has_all(shape[k], box):
            return ("box", k)
    across = cut_places(shape, box, 0)
    along = cut_places(shape, box, 1)
    way = 0 if len(across) >= len(along) else 1
    places = across if way == 0 else along
    at = places[len(places) // 2]
    first = cover_of(shape, up_to(box, way, at))
    return ("cut", way, at, first, cover_of(shape, onward_from(box, way, at + 1)))


# Boxes that have nothing of it are left out: cuts at their edges would be of no use.
def cut_places(shape, box, way):
    places = []
    for other in shape:
        if steps_between(other, box) == 0:
            places.extend([other[0][way] - 1, other[1][way]])
    return sorted(set([at for at in places if box[0][way] <= at < box[1][way]]))


def holds_cover(shape, box, thing):
    if not isinstance(thing, tuple):
        return False
    if len(thing) == 2 and thing[0] == "box":
        return is_number_of(shape, thing[1]) and has_all(shape[thing[1]], box)
    if len(thing) == 5 and thing[0] == "cut" and cuts(box, thing[1], thing[2]):
        first = up_to(box, thing[1], thing[2])
        second = onward_from(box, thing[1], thing[2] + 1)
        return holds_cover(shape, first, thing[3]) and holds_cover(shape, second, thing[4])
    return False


def is_number_of(shape, k):
    return is_whole(k) and 0 <= k < len(shape)


def cuts(box, way, at):
    return is_whole(way) and 0 <= way <= 1 and is_whole(at) and box[0][way] <= at < box[1][way]
