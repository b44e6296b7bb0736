"""Holds: promised ones and loans. What changes is a new object in the place of the old one."""

from quotatree.amounts import total_of


class Hold:
    def __init__(self, number, house, amounts, rank, turns):
        self.number = number
        self.house = house
        self.amounts = dict(amounts)
        self.rank = rank
        self.turns = turns

    def is_sure(self):
        return True

    def may_end(self, rank, sure):
        return False

    def told(self):
        return (self.number, self.house, dict(self.amounts), self.rank, self.turns, self.is_sure())


class Loan(Hold):
    def is_sure(self):
        return False

    def may_end(self, rank, sure):
        return sure or self.rank < rank


def made(number, house, amounts, rank, turns, sure):
    if sure:
        return Hold(number, house, amounts, rank, turns)
    return Loan(number, house, amounts, rank, turns)


def changed(hold, amounts, turns, sure):
    return made(hold.number, hold.house, amounts, hold.rank, turns, sure)


def holds_beneath(tree, holds, house):
    names = tree.beneath(house)
    return [hold for hold in holds if hold.house in names]


def held_by(holds):
    return total_of([hold.amounts for hold in holds])
