"""What several test files need: odd things, and the document's words gone through spot by spot."""

import copy
import random

MOST = 10 ** 12 - 1
BEYOND = 10 ** 12
HUGE = 10 ** 60 - 1


def deep(inner, levels):
    for _ in range(levels):
        inner = [inner]
    return inner


ODD_THINGS = [
    None, True, False, 0, 1, -7, HUGE, "", "a", "ab", "0,0", "((0, 0), (1, 1))",
    (), [], {}, (None,), (None, None), ("a", "b"), [1, 2], {0: 1}, {0: 0, 1: 1}, {"a": [1]},
    (1,), (1, 2, 3), ((),), ((), ()), [[], []], ({}, {}), deep(0, 29), (deep(0, 28), deep(0, 28)),
]


def spots_of_box(box):
    (x0, y0), (x1, y1) = box
    return [(x, y) for x in range(x0, x1 + 1) for y in range(y0, y1 + 1)]


def spots_of_shape(shape):
    return {spot for box in shape for spot in spots_of_box(box)}


def slow_steps(one, other):
    return max(abs(one[0] - other[0]), abs(one[1] - other[1]))


def slow_depth_and_nearest(shape, spot, reach):
    """By the words of the document: ring after ring of spots, till one of the other side is met."""
    spots = spots_of_shape(shape)
    inside = spot in spots
    for far in range(1, reach + 1):
        ring = [s for s in spots_of_box(((spot[0] - far, spot[1] - far), (spot[0] + far, spot[1] + far)))
                if slow_steps(s, spot) == far and (s in spots) != inside]
        if ring:
            return (far if inside else -far), min(ring)
    raise AssertionError("reach too short")


def random_shape(chance, most_boxes, low, high, longest):
    """A chain of boxes within low..high both ways, each at most one step from the one ahead."""
    wanted = chance.randint(1, most_boxes)
    boxes = []
    while len(boxes) < wanted:
        x = chance.randint(low, high)
        y = chance.randint(low, high)
        box = ((x, y), (min(high, x + chance.randint(0, longest)), min(high, y + chance.randint(0, longest))))
        if not boxes or slow_steps_between(boxes[-1], box) <= 1:
            boxes.append(box)
    return tuple(boxes)


def slow_steps_between(one, other):
    return min(slow_steps(a, b) for a in spots_of_box(one) for b in spots_of_box(other))


def random_shapes(seed, many, most_boxes=6, low=-4, high=6, longest=4):
    chance = random.Random(seed)
    return [random_shape(chance, most_boxes, low, high, longest) for _ in range(many)]


def as_lists(thing):
    return [as_lists(part) for part in thing] if isinstance(thing, (tuple, list)) else thing


def unchanged(test, call, *things):
    """Calls twice: the same answer both times, and nothing handed in is changed."""
    before = copy.deepcopy(things)
    first = call(*things)
    kept = copy.deepcopy(first)
    second = call(*things)
    test.assertEqual(first, kept)
    test.assertEqual(first, second)
    test.assertEqual(things, before)
    return first
