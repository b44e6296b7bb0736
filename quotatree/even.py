"""Even shares: the room that is left in a ware, dealt to those who want it by their weights."""

from quotatree.amounts import amount_of
from quotatree.parts import below, divided, fraction, minus, plus, times
from quotatree.reasons import used


def rooms_of(tree, holds, ware):
    rooms = {}
    for name in tree.names():
        rooms[name] = amount_of(tree.cap_of(name), ware) - amount_of(used(tree, holds, name), ware)
    return rooms


def weights_of(tree, wants, weigh):
    weights = {}
    for name in sorted(wants):
        weights[name] = tree.weight_of(name) if weigh is None else weigh(name)
    return weights


def loads_of(tree, weights, waiting):
    loads = {}
    for name in waiting:
        for house in tree.line(name):
            loads[house] = loads.get(house, 0) + weights[name]
    return loads


def least_of(many):
    least = many[0]
    for one in many:
        if below(one, least):
            least = one
    return least


class Dealing:
    def __init__(self, tree, rooms, wants, weights):
        self.tree = tree
        self.weights = weights
        self.waiting = sorted(wants)
        self.left = {}
        self.goals = {}
        for house in rooms:
            self.left[house] = (rooms[house], 1)
        for name in wants:
            self.goals[name] = fraction(wants[name], weights[name])

    def fills(self):
        loads = loads_of(self.tree, self.weights, self.waiting)
        told = {}
        for house in loads:
            told[house] = divided(self.left[house], (loads[house], 1))
        return told

    def ready(self, level, fills):
        told = []
        for name in self.waiting:
            levels = [fills[house] for house in self.tree.line(name)] + [self.goals[name]]
            if level in levels:
                told.append(name)
        return told

    def settle(self, level, names):
        for name in names:
            share = times(level, (self.weights[name], 1))
            for house in self.tree.line(name):
                self.left[house] = minus(self.left[house], share)
        self.waiting = [name for name in self.waiting if name not in names]

    def next_round(self):
        fills = self.fills()
        level = least_of(list(fills.values()) + [self.goals[name] for name in self.waiting])
        names = self.ready(level, fills)
        self.settle(level, names)
        return (level, names)


def rounds_by(tree, rooms, wants, weights):
    dealing = Dealing(tree, rooms, wants, weights)
    told = []
    while len(dealing.waiting) > 0:
        told.append(dealing.next_round())
    return told


def rounds(tree, rooms, wants, weigh=None):
    return rounds_by(tree, rooms, wants, weights_of(tree, wants, weigh))


class Sums:
    def __init__(self, tree, rooms, shares, weights):
        self.tree = tree
        self.rooms = rooms
        self.levels = {}
        self.totals = {}
        self.tops = {}
        for name in shares:
            level = divided(shares[name], (weights[name], 1))
            self.levels[name] = level
            for house in tree.line(name):
                self.totals[house] = plus(self.totals.get(house, (0, 1)), shares[name])
                if below(self.tops.get(house, (-1, 1)), level):
                    self.tops[house] = level

    def within_rooms(self):
        return not any([below((self.rooms[house], 1), self.totals[house]) for house in self.totals])

    def stops_of(self, name):
        told = []
        for house in self.tree.line(name):
            is_full = self.totals[house] == (self.rooms[house], 1)
            if is_full and not below(self.levels[name], self.tops[house]):
                told.append(house)
        return told


def even(tree, rooms, wants, weigh=None):
    weights = weights_of(tree, wants, weigh)
    shares = {}
    for level_names in rounds_by(tree, rooms, wants, weights):
        for name in level_names[1]:
            shares[name] = times(level_names[0], (weights[name], 1))
    sums = Sums(tree, rooms, shares, weights)
    told = []
    for name in sorted(wants):
        paper = None if shares[name] == (wants[name], 1) else sums.stops_of(name)[0]
        told.append((name, shares[name], paper))
    return told


def is_share(share, want):
    return not below(share, (0, 1)) and not below((want, 1), share)


def is_paper(sums, row, want):
    if row[2] is None:
        return row[1] == (want, 1)
    return row[2] in sums.stops_of(row[0])


def is_even(tree, rooms, wants, dealt, weigh=None):
    # Names go first: what isn't wanted has no want, and its weight must not be asked for.
    if [row[0] for row in dealt] != sorted(wants):
        return False
    if not all([is_share(row[1], wants[row[0]]) for row in dealt]):
        return False
    shares = {}
    for row in dealt:
        shares[row[0]] = row[1]
    sums = Sums(tree, rooms, shares, weights_of(tree, wants, weigh))
    return sums.within_rooms() and all([is_paper(sums, row, wants[row[0]]) for row in dealt])
