"""The book: it does deeds by a hall of its own, and writes a row for each."""

from quotatree.amounts import above_nought
from quotatree.errors import NoDeed, NoRoom
from quotatree.hall import Hall

THINGS_OF_DEEDS = {"found": 6, "ask": 5, "grow": 3, "back": 2, "turn": 1, "move": 3}


def copied(thing):
    if isinstance(thing, dict):
        return dict(thing)
    if isinstance(thing, list):
        return [copied(part) for part in thing]
    if isinstance(thing, tuple):
        return tuple([copied(part) for part in thing])
    return thing


def is_deed(thing):
    if not isinstance(thing, tuple) or len(thing) == 0:
        return False
    # What is no text may be something that no dict can be asked for.
    return isinstance(thing[0], str) and THINGS_OF_DEEDS.get(thing[0]) == len(thing)


def done_by(hall, deed):
    word = deed[0]
    if word == "found":
        return hall.found(deed[1], deed[2], deed[3], deed[4], deed[5])
    if word == "ask":
        return hall.ask(deed[1], deed[2], deed[3], deed[4])
    if word == "grow":
        return hall.grow(deed[1], deed[2])
    if word == "back":
        return hall.back(deed[1])
    if word == "turn":
        return hall.turn()
    return hall.move(deed[1], deed[2])


def roomless_deed(deed):
    # Only asks, growths and moves can find no room; the hall has looked at their amounts by then.
    if deed[0] == "move":
        return deed
    return deed[:2] + (above_nought(deed[2]),) + deed[3:]


def deed_of(row):
    word = row[0]
    if word == "first":
        return None
    if word == "hold":
        return copied(("ask", row[2], row[3], row[4], row[5]))
    if word == "grow":
        return copied(row[:3])
    if word == "back":
        return row[:2]
    if word == "turn":
        return row[:1]
    if word == "refused":
        return copied(row[1])
    return copied(row)


class Book:
    def __init__(self, wares, name, promise, cap, weight=1):
        self.hall = Hall(wares, name, promise, cap, weight)
        tree = self.hall.tree
        self.written = [("first", tree.wares(), name, tree.promise_of(name), tree.cap_of(name), weight)]

    def do(self, deed):
        if not is_deed(deed):
            raise NoDeed("there is no such deed")
        try:
            row = done_by(self.hall, deed)
        except NoRoom as refusal:
            row = ("refused", roomless_deed(deed), refusal.house, refusal.ware, refusal.holders)
        self.written.append(row)
        # The row that is kept is not the asker's to change.
        return copied(row)

    def rows(self):
        return copied(self.written)

    def use(self, house):
        return self.hall.use(house)

    def own(self, house):
        return self.hall.own(house)

    def promised(self, house):
        return self.hall.promised(house)

    def numbers(self):
        return self.hall.numbers()

    def tell(self, number):
        return self.hall.tell(number)

    def most(self, house, ware, rank=0):
        return self.hall.most(house, ware, rank)

    def shares(self, ware, wants, weigh=None):
        return self.hall.shares(ware, wants, weigh)
