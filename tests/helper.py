"""What several test files need: odd things, and the document's words gone through spot by spot."""

import copy
import functools
import random

MOST = 10 ** 12 - 1
BEYOND = 10 ** 12
HUGE = 10 ** 60 - 1


def deep(inner, levels):
    for _ in range(levels):
        inner = [inner]
    return inner


ODD_THINGS = [
    None, True, False, 0, 1, -7, HUGE, "", "a", "ab", "0,0", "((0, 0), (1, 1))",
    (), [], {}, (None,), (None, None), ("a", "b"), [1, 2], {0: 1}, {0: 0, 1: 1}, {"a": [1]},
    (1,), (1, 2, 3), ((),), ((), ()), [[], []], ({}, {}), deep(0, 29), (deep(0, 28), deep(0, 28)),
]


NAMES = ["a", "z", "hare", "aaaaaaaa", "abcdefgh", "zzzzzzzz", "m"]
NO_NAMES = ["", "abcdefghi", "A", "Hare", "hAre", "harE", "hare1", "1", "0hare", "ha re", " ", " hare", "hare ", "hare\n",
            "\n", "\nhare", "ha\nre", "-", "ha-re", "ha_re", "a.", "`", "{", "@", "[", "~", "a" * 10000, "a" * 9]
NO_TEXTS = [None, True, False, 0, 7, ("a",), ["a"], ("h", "a"), {"a": "a"}, (), [], {}, deep("a", 29)]
TIMES = [0, 1, 5, MOST, 10 ** 12]
NO_TIMES = [-1, 10 ** 12 + 1, HUGE, -HUGE, -10 ** 12, True, False, None, "", "0", "5", (5,), [5], {5: 5}, (), deep(5, 29)]

LAST = 10 ** 12
# From 0 to 10 both ways: by the wobble 1 (5, 5) is in, (0, 5) between, (-2, 5) out.
TEN = (((0, 0), (10, 10)),)
FIVE = (((0, 0), (5, 5)),)
FAR = (((20, 20), (30, 30)),)
IN, BETWEEN, OUT = (5, 5), (0, 5), (-2, 5)


def land(time, name, outer="", shape=TEN, wobble=1):
    return ("land", time, name, outer, shape, wobble)


def spot(time, name, at=IN):
    return ("spot", time, name, at)


def drop(time, name):
    return ("drop", time, name)


def free(time, name):
    return ("free", time, name)


def comes(time, thing, *lands):
    return [(time, thing, "comes", name) for name in lands]


def goes(time, thing, *lands):
    return [(time, thing, "goes", name) for name in lands]


def spots_of_box(box):
    (x0, y0), (x1, y1) = box
    return [(x, y) for x in range(x0, x1 + 1) for y in range(y0, y1 + 1)]


def spots_of_shape(shape):
    return {spot for box in shape for spot in spots_of_box(box)}


def slow_steps(one, other):
    return max(abs(one[0] - other[0]), abs(one[1] - other[1]))


def slow_depth_and_nearest(shape, spot, reach):
    """By the words of the document: ring after ring of spots, till one of the other side is met."""
    spots = spots_of_shape(shape)
    inside = spot in spots
    for far in range(1, reach + 1):
        ring = [s for s in spots_of_box(((spot[0] - far, spot[1] - far), (spot[0] + far, spot[1] + far)))
                if slow_steps(s, spot) == far and (s in spots) != inside]
        if ring:
            return (far if inside else -far), min(ring)
    raise AssertionError("reach too short")


def random_shape(chance, most_boxes, low, high, longest):
    """A chain of boxes within low..high both ways, each at most one step from the one ahead."""
    wanted = chance.randint(1, most_boxes)
    boxes = []
    while len(boxes) < wanted:
        x = chance.randint(low, high)
        y = chance.randint(low, high)
        box = ((x, y), (min(high, x + chance.randint(0, longest)), min(high, y + chance.randint(0, longest))))
        if not boxes or slow_steps_between(boxes[-1], box) <= 1:
            boxes.append(box)
    return tuple(boxes)


def slow_steps_between(one, other):
    return min(slow_steps(a, b) for a in spots_of_box(one) for b in spots_of_box(other))


def random_shapes(seed, many, most_boxes=6, low=-4, high=6, longest=4):
    chance = random.Random(seed)
    return [random_shape(chance, most_boxes, low, high, longest) for _ in range(many)]


def random_box(chance, low=-5, high=7, longest=5):
    x = chance.randint(low, high)
    y = chance.randint(low, high)
    return ((x, y), (x + chance.randint(0, longest), y + chance.randint(0, longest)))


def slow_lacking(shape, box):
    """The least spot of the box that the shape hasn't, or None."""
    spots = spots_of_shape(shape)
    return min((spot for spot in spots_of_box(box) if spot not in spots), default=None)


def whole(thing):
    return thing.__class__ is int


def slow_halves(box, way, at):
    """Both sides of a cut, by the spots of them."""
    first = [spot for spot in spots_of_box(box) if spot[way] <= at]
    second = [spot for spot in spots_of_box(box) if spot[way] > at]
    return (first[0], first[-1]), (second[0], second[-1])


def slow_holds(shape, box, thing):
    """Whether a thing is a cover, by the words of the document, spot by spot."""
    if thing.__class__ is not tuple or thing[:1] not in (("box",), ("cut",)):
        return False
    if thing[0] == "box":
        if len(thing) != 2 or not whole(thing[1]) or thing[1] not in range(len(shape)):
            return False
        return set(spots_of_box(box)) <= set(spots_of_box(shape[thing[1]]))
    if len(thing) != 5 or not whole(thing[1]) or thing[1] not in (0, 1) or not whole(thing[2]):
        return False
    way, at = thing[1], thing[2]
    if at not in range(box[0][way], box[1][way]):
        return False
    first, second = slow_halves(box, way, at)
    return slow_holds(shape, first, thing[3]) and slow_holds(shape, second, thing[4])


def how_deep(thing):
    """Of a cover: 1 of a box, one more than the deeper side of a cut."""
    return 1 if thing[0] == "box" else 1 + max(how_deep(thing[3]), how_deep(thing[4]))


def other_hand(chance, shape, box, keep_cutting=0):
    """A cover of a small box that the shape has, cut anywhere, now and then more often than need be."""
    spots = set(spots_of_box(box))
    fitting = [k for k in range(len(shape)) if spots <= set(spots_of_box(shape[k]))]
    ways = [way for way in (0, 1) if box[0][way] < box[1][way]]
    if fitting and (not ways or chance.random() >= keep_cutting):
        return ("box", chance.choice(fitting))
    way = chance.choice(ways)
    at = chance.randrange(box[0][way], box[1][way])
    first, second = slow_halves(box, way, at)
    return ("cut", way, at, other_hand(chance, shape, first, keep_cutting),
            other_hand(chance, shape, second, keep_cutting))


def places_in(thing, ahead=()):
    """The way to each part of tuples within tuples, the whole itself among them."""
    told = [ahead]
    if isinstance(thing, tuple):
        for k, part in enumerate(thing):
            told += places_in(part, ahead + (k,))
    return told


def part_at(thing, place):
    for k in place:
        thing = thing[k]
    return thing


def put_at(thing, place, part):
    """The thing with another part at that place."""
    if not place:
        return part
    k = place[0]
    return thing[:k] + (put_at(thing[k], place[1:], part),) + thing[k + 1:]


def as_lists(thing):
    return [as_lists(part) for part in thing] if isinstance(thing, (tuple, list)) else thing


def unchanged(test, call, *things):
    """Calls twice: the same answer both times, and nothing handed in is changed."""
    before = copy.deepcopy(things)
    first = call(*things)
    kept = copy.deepcopy(first)
    second = call(*things)
    test.assertEqual(first, kept)
    test.assertEqual(first, second)
    test.assertEqual(things, before)
    return first


@functools.lru_cache(maxsize=None)
def slow_side(shape, wobble, spot):
    """By the square of the spot and the wobble, spot by spot."""
    around = ((spot[0] - wobble, spot[1] - wobble), (spot[0] + wobble, spot[1] + wobble))
    found = {near in spots_of_shape(shape) for near in spots_of_box(around)}
    return {(True,): "in", (False,): "out"}.get(tuple(found), "between")


def slow_level(lands, land, walked=()):
    """By the words of the document, from outer to outer; walked are those on the way so far."""
    there = [row for row in lands if row[0] == land]
    if not there or land in walked:
        return None
    if there[0][1] == "":
        return 1
    outer = slow_level(lands, there[0][1], walked + (land,))
    return None if outer is None else outer + 1


def slow_looked(lands, held, spot):
    """Land by land: whether the thing is in it, and so in its outer, and in that one's."""
    def is_in(row):
        if slow_level(lands, row[0]) is None:
            return False
        found = slow_side(row[2], row[3], spot)
        if found == "out" or found == "between" and row[0] not in held:
            return False
        return row[1] == "" or any(is_in(other) for other in lands if other[0] == row[1])
    return sorted(row[0] for row in lands if is_in(row))


def slow_lands(tellings, land_counts):
    """Each land as it was told last of those whose time counts; of several at that time the least one counts."""
    told = []
    for name in {t[2] for t in tellings if t[0] in ("land", "drop")}:
        its = [t for t in tellings if t[0] in ("land", "drop") and t[2] == name and land_counts(t[1])]
        last = min((t for t in its if t[1] == max(u[1] for u in its)), default=("drop",))
        if last[0] == "land":
            told.append(last[2:])
    return tuple(sorted(told))


def slow_thing(tellings, thing):
    """One thing by itself: its rows, each with the part of its time, and what it is behind all of them."""
    spot, stays, rows = None, {}, []

    def go_on(time, part, ahead, lands, behind):
        goings = [land for land in stays if land not in behind]
        comings = [land for land in behind if land not in stays]
        for land in sorted(goings, key=lambda land: (-slow_level(ahead, land), land)):
            rows.append(((time, part, thing), (time, thing, "goes", land)))
            del stays[land]
        for land in sorted(comings, key=lambda land: (slow_level(lands, land), land)):
            rows.append(((time, part, thing), (time, thing, "comes", land)))
            stays[land] = time

    for time in sorted({t[1] for t in tellings}):
        now = [t for t in tellings if t[1] == time]
        ahead = slow_lands(tellings, lambda when: when < time)
        lands = slow_lands(tellings, lambda when: when <= time)
        if spot is not None and any(t[0] in ("land", "drop") for t in now):
            go_on(time, 0, ahead, lands, slow_looked(lands, list(stays), spot))
        if spot is not None and ("free", time, thing) in now:
            go_on(time, 1, lands, lands, [])
            spot = None
        spots = [t[3] for t in now if t[0] == "spot" and t[2] == thing]
        if spots:
            spot = min(spots)
            go_on(time, 2, lands, lands, slow_looked(lands, list(stays), spot))
    return rows, None if spot is None else (thing, spot, tuple(sorted(stays.items())))


def names_of_things(tellings):
    return sorted({t[2] for t in tellings if t[0] in ("free", "spot")})


def slow_history(tellings):
    """Each thing by itself; then all rows by time, part and thing."""
    rows = [row for thing in names_of_things(tellings) for row in slow_thing(tellings, thing)[0]]
    return [row for _, row in sorted(rows, key=lambda row: row[0])]


def slow_view_at(tellings, time):
    told = [t for t in tellings if t[1] <= time]
    things = [slow_thing(told, thing)[1] for thing in names_of_things(told)]
    return (slow_lands(told, lambda when: True), tuple(sorted(known for known in things if known is not None)))


def slow_stays(rows):
    """For each coming the first going behind it."""
    told = []
    for k, (begin, thing, word, land) in enumerate(rows):
        if word == "comes":
            ends = [row[0] for row in rows[k:] if row[1:] == (thing, "goes", land)]
            told.append((thing, land, begin, ends[0] if ends else None))
    return told


def roomy_shape(chance):
    """A box round the middle of the small grid, now and then with one more beside it."""
    first = ((chance.randint(-3, 1), chance.randint(-3, 1)), (chance.randint(2, 6), chance.randint(2, 6)))
    if chance.random() < 0.6:
        return (first,)
    x, y = chance.randint(first[0][0] - 1, first[1][0] + 1), chance.randint(first[0][1] - 1, first[1][1] + 1)
    return (first, ((x, y), (x + chance.randint(0, 3), y + chance.randint(0, 3))))


def random_world(chance, many, last=6, lands=("a", "b", "c", "wood", "z"), things=("a", "fox", "hare")):
    """Tellings on a small grid, many of them at one time, some told again."""
    told = []
    for nth in range(many):
        time = chance.randint(0, last) if nth >= len(lands) else 0
        word = chance.choice(["land"] * 3 + ["spot"] * 8 + ["free", "drop"]) if nth >= len(lands) else "land"
        if word == "land":
            k = chance.randrange(len(lands))
            outer = chance.choice(["", ""] + list(lands[:k]) * 2 + [chance.choice(list(lands) + ["gone"])])
            told.append((word, time, lands[k], outer, roomy_shape(chance), chance.choice([0, 0, 1, 1, 2])))
        elif word == "drop":
            told.append((word, time, chance.choice(lands)))
        elif word == "free":
            told.append((word, time, chance.choice(things)))
        else:
            told.append((word, time, chance.choice(things), (chance.randint(-2, 6), chance.randint(-2, 6))))
    return told + [chance.choice(told) for _ in range(chance.choice([0, 3])) if told]


def random_worlds(seed, many, most=50, lasts=(1, 6, 20), **kinds):
    chance = random.Random(seed)
    return [random_world(chance, chance.randint(0, most), last=chance.choice(lasts), **kinds) for _ in range(many)]


class SlowBook:
    """A book by the words of the document: all that was ever taken is kept, and reckoned anew each time."""

    def __init__(self, late):
        self.late, self.now, self.all, self.put, self.there = late, None, [], 0, {}

    def edge(self):
        return 0 if self.now is None else max(0, self.now - self.late)

    def tell(self, telling):
        if telling[1] < self.edge():
            return "late", [], []
        if telling in self.all:
            return "again", [], []
        self.all.append(telling)
        return ("taken",) + self.go_to(telling[1])

    def wait(self, time):
        return self.go_to(time)

    def go_to(self, time):
        before = self.edge()
        self.now = time if self.now is None else max(self.now, time)
        rows = [row for row in self.rows() if row[0] >= before]
        return rows, self.heard(before, rows)

    def rows(self):
        return [row for row in slow_history(self.all) if row[0] < self.edge()]

    def view(self):
        return slow_view_at(self.all, self.edge() - 1)

    def open_ones(self):
        rank = {"land": 0, "drop": 0, "free": 1, "spot": 2}
        return sorted([t for t in self.all if t[1] >= self.edge()], key=lambda t: (t[1], rank[t[0]], t[2], t))

    def watch(self, thing, land, what):
        self.there[self.put] = (thing, land, what, self.edge())
        self.put += 1
        return self.put - 1

    def unwatch(self, number):
        del self.there[number]

    def heard(self, before, rows):
        told = []
        for number, (thing, land, what, put) in self.there.items():
            for k, row in enumerate(rows):
                if row[2] == what and thing in ("", row[1]) and land in ("", row[3]):
                    told.append(((row[0], 1, k, number), (number, row)))
            if whole(what):
                for name, place, begin, end in slow_stays(self.rows()):
                    due = begin + what
                    if (max(before, put) <= due < self.edge() and (end is None or end - begin >= what)
                            and thing in ("", name) and land in ("", place)):
                        told.append(((due, 0, name, place, number), (number, (due, name, "stays", place))))
        return [pair for _, pair in sorted(told)]

    def cut(self):
        watchers = tuple((number,) + watcher[:3] for number, watcher in sorted(self.there.items()))
        return (self.late, self.now, self.view(), tuple(self.open_ones()), watchers, self.put)


def some_time_late(chance, tellings, late):
    """The tellings nearly in the order of their times, some of them late, a few of them too late."""
    return sorted(tellings, key=lambda t: t[1] + chance.randint(0, late) + (20 if chance.random() < 0.05 else 0))


def in_time(chance, tellings, late):
    """The tellings in an order in which none comes too late: each at most so late behind its time."""
    return sorted(tellings, key=lambda t: (t[1] + chance.randint(0, min(late, 30)), chance.random()))
