"""The tree of houses: who stands beneath whom, and each house's promise, limit and weight."""

from quotatree.amounts import added, amounts_of, beyond, total_of
from quotatree.errors import NoHouse, NoMove, NoName, NoNumber, NoPromise, NoWare, Taken, TooDeep, TooMany
from quotatree.words import is_name, is_whole_from

MOST_WARES = 6
MOST_HOUSES = 40
LONGEST_LINE = 12
GREATEST_WEIGHT = 1000


class House:
    def __init__(self, elder, promise, cap, weight):
        self.elder = elder
        self.promise = promise
        self.cap = cap
        self.weight = weight


def are_wares(thing):
    if not isinstance(thing, list) or len(thing) < 1 or len(thing) > MOST_WARES:
        return False
    return all([is_name(ware) for ware in thing]) and len(set(thing)) == len(thing)


def check_name(thing):
    if not is_name(thing):
        raise NoName("a name is one to eight small letters from a to z")


def read_house(wares, elder, promise, cap, weight):
    own_promise = amounts_of(promise, wares)
    own_cap = amounts_of(cap, wares)
    if not is_whole_from(weight, 1, GREATEST_WEIGHT):
        raise NoNumber("a weight is a whole number from 1 to 1000")
    return House(elder, own_promise, own_cap, weight)


def check_promises(name, promises, cap):
    ware = beyond(promises, cap)
    if ware is not None:
        raise NoPromise(name, ware)


class Tree:
    def __init__(self, wares, name, promise, cap, weight=1):
        if not are_wares(wares):
            raise NoWare("wares are a list of one to six names, no two alike")
        check_name(name)
        house = read_house(wares, None, promise, cap, weight)
        check_promises(name, house.promise, house.cap)
        self.sorted_wares = sorted(wares)
        self.houses = {name: house}

    def found(self, name, elder, promise, cap, weight=1):
        check_name(name)
        if self.has(name):
            raise Taken("a house has this name already")
        self.check_house(elder)
        house = read_house(self.sorted_wares, elder, promise, cap, weight)
        if len(self.houses) >= MOST_HOUSES:
            raise TooMany("a tree has at most forty houses")
        elders = self.line(elder)
        if len(elders) >= LONGEST_LINE:
            raise TooDeep("a line has at most twelve houses")
        check_promises(name, house.promise, house.cap)
        self.check_more(elders, house.promise)
        self.houses[name] = house

    def wares(self):
        return list(self.sorted_wares)

    def names(self):
        return sorted(self.houses)

    def has(self, thing):
        # What is no text may be something that no dict can be asked for.
        return isinstance(thing, str) and thing in self.houses

    def check_house(self, thing):
        if not self.has(thing):
            raise NoHouse("there is no such house")

    def house_of(self, name):
        self.check_house(name)
        return self.houses[name]

    def elder_of(self, name):
        return self.house_of(name).elder

    def promise_of(self, name):
        return dict(self.house_of(name).promise)

    def cap_of(self, name):
        return dict(self.house_of(name).cap)

    def weight_of(self, name):
        return self.house_of(name).weight

    def kids(self, name):
        self.check_house(name)
        return sorted([kid for kid in self.houses if self.houses[kid].elder == name])

    def line(self, name):
        told = [name]
        elder = self.elder_of(name)
        while elder is not None:
            told.append(elder)
            elder = self.elder_of(elder)
        return told

    def beneath(self, name):
        told = [name]
        for kid in self.kids(name):
            told.extend(self.beneath(kid))
        return told

    def promised_beneath(self, name):
        return total_of([self.houses[under].promise for under in self.beneath(name)])

    def floors(self, name):
        deepest = max([len(self.line(under)) for under in self.beneath(name)])
        return deepest - len(self.line(name)) + 1

    def check_more(self, names, more):
        for name in names:
            check_promises(name, added(self.promised_beneath(name), more), self.houses[name].cap)

    def check_move(self, name, elder):
        own_line = self.line(name)
        elders = self.line(elder)
        # The elder's line has the house just where the elder is the house or stands beneath it; it always has the
        # first house, so that is never moved either.
        if name in elders or elder == self.elder_of(name):
            raise NoMove("the house cannot be moved there")
        if len(elders) + self.floors(name) > LONGEST_LINE:
            raise TooDeep("a line has at most twelve houses")
        # Houses on both lines have the moved promises beneath them already.
        self.check_more([other for other in elders if other not in own_line], self.promised_beneath(name))

    def move(self, name, elder):
        self.check_move(name, elder)
        self.houses[name].elder = elder
