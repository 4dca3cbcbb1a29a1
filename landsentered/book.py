"""The book: takes tellings as they are told, and tells rows as soon as nothing told in time can change them."""

from landsentered.errors import NoTelling, NoTime, NoWatch, TooMany
from landsentered.history import EMPTY, gone_through
from landsentered.staying import stays_behind
from landsentered.tellings import all_in_order, is_telling, is_time
from landsentered.watching import heard_of, is_watcher
from landsentered.wholes import is_whole

MOST_OPEN = 200
MOST_WATCHERS = 20


class Book:
    def __init__(self, late):
        if not is_time(late):
            raise NoTime("a lateness is a whole number from 0 to 10 ** 12")
        self.late = late
        self.now = None
        self.told = []
        self.settled = EMPTY
        self.taken = []
        self.watchers = {}
        self.many = 0

    def tell(self, telling):
        if not is_telling(telling):
            raise NoTelling("this is no telling")
        if telling[1] < self.edge():
            return ("late", [], [])
        if telling in self.taken:
            return ("again", [], [])
        if len(self.taken) >= MOST_OPEN:
            raise TooMany("two hundred tellings are open already")
        self.taken.append(telling)
        step = self.go_to(telling[1])
        return ("taken", step[0], step[1])

    def wait(self, time):
        if not is_time(time):
            raise NoTime("a time is a whole number from 0 to 10 ** 12")
        return self.go_to(time)

    def go_to(self, time):
        if self.now is not None and time <= self.now:
            return ([], [])
        before = self.edge()
        self.now = time
        return self.settle(before)

    # What was due below the edge as it was before has been heard, or came ahead of the watcher.
    def settle(self, before):
        edge = self.edge()
        step = gone_through(self.settled, [telling for telling in self.taken if telling[1] < edge])
        rows = step[1]
        heard = heard_of(self.watchers, stays_behind(self.settled, rows), rows, before, edge)
        self.taken = [telling for telling in self.taken if telling[1] >= edge]
        self.settled = step[0]
        self.told.extend(rows)
        return (rows, heard)

    def clock(self):
        return self.now

    def edge(self):
        if self.now is None:
            return 0
        return max(0, self.now - self.late)

    def rows(self):
        return list(self.told)

    def view(self):
        return self.settled

    def open_ones(self):
        return all_in_order(self.taken)

    def watch(self, thing, land, what):
        if not is_watcher(thing, land, what):
            raise NoWatch("this is no watcher")
        if len(self.watchers) >= MOST_WATCHERS:
            raise TooMany("twenty watchers are there already")
        number = self.many
        self.watchers[number] = (thing, land, what)
        self.many = number + 1
        return number

    def unwatch(self, number):
        if not is_whole(number) or number not in self.watchers:
            raise NoWatch("no watcher has this number")
        self.watchers.pop(number)

    def cut(self):
        watchers = tuple([(number,) + self.watchers[number] for number in sorted(self.watchers)])
        return (self.late, self.now, self.settled, tuple(self.open_ones()), watchers, self.many)


def book_of(cut):
    book = Book(cut[0])
    book.now = cut[1]
    book.settled = cut[2]
    book.taken = list(cut[3])
    book.watchers = dict([(watcher[0], watcher[1:]) for watcher in cut[4]])
    book.many = cut[5]
    return book
