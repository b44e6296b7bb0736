"""The store: the holds of the houses of one tree, by their numbers."""

from quotatree.amounts import added, beyond, within
from quotatree.errors import NoHold, NoPromise
from quotatree.holds import changed, held_by, holds_beneath, made
from quotatree.words import is_whole


class Store:
    def __init__(self, tree):
        self.tree = tree
        self.holds = {}
        self.last = 0

    def put(self, house, amounts, rank, turns, sure):
        self.tree.check_house(house)
        if sure:
            self.check_fits(house, amounts, None)
        self.last += 1
        self.holds[self.last] = made(self.last, house, amounts, rank, turns, sure)
        return self.last

    def keeps(self, thing):
        # True and 1 are the same key to a dict, but a truth is no number of a hold.
        return is_whole(thing) and thing in self.holds

    def hold_at(self, number):
        if not self.keeps(number):
            raise NoHold("there is no such hold")
        return self.holds[number]

    def tell(self, number):
        return self.hold_at(number).told()

    def numbers(self):
        return sorted(self.holds)

    def under(self, house=None):
        holds = [self.holds[number] for number in self.numbers()]
        if house is None:
            return holds
        return holds_beneath(self.tree, holds, house)

    def at_house(self, house):
        self.tree.check_house(house)
        return [hold for hold in self.under() if hold.house == house]

    def own(self, house):
        return held_by(self.at_house(house))

    def promised(self, house):
        return self.promised_but(house, None)

    def promised_but(self, house, but):
        holds = [hold for hold in self.at_house(house) if hold.is_sure()]
        if self.keeps(but):
            holds = [hold for hold in holds if hold.number != but]
        return held_by(holds)

    def use(self, house):
        # None means all houses to under, but is no house here.
        self.tree.check_house(house)
        return held_by(self.under(house))

    def too_much(self, house, amounts, but):
        return beyond(added(self.promised_but(house, but), amounts), self.tree.promise_of(house))

    def fits(self, house, amounts, but=None):
        return self.too_much(house, amounts, but) is None

    def check_fits(self, house, amounts, but):
        ware = self.too_much(house, amounts, but)
        if ware is not None:
            raise NoPromise(house, ware)

    def drop(self, number):
        told = self.tell(number)
        self.holds.pop(number)
        return told

    def change(self, number, amounts, sure):
        hold = self.hold_at(number)
        if sure:
            self.check_fits(hold.house, amounts, number)
        self.holds[number] = changed(hold, amounts, hold.turns, sure)

    def lift(self, house):
        lifted = []
        promised = self.promised(house)
        promise = self.tree.promise_of(house)
        for loan in [hold for hold in self.at_house(house) if not hold.is_sure()]:
            together = added(promised, loan.amounts)
            if within(together, promise):
                # What is lifted takes its part of the promise ahead of the loans behind it.
                promised = together
                self.holds[loan.number] = changed(loan, loan.amounts, loan.turns, True)
                lifted.append(loan.number)
        return lifted

    def turn(self):
        ended = []
        for hold in self.under():
            if hold.turns == 1:
                self.holds.pop(hold.number)
                ended.append(hold.number)
            elif hold.turns is not None:
                self.holds[hold.number] = changed(hold, hold.amounts, hold.turns - 1, hold.is_sure())
        return ended

    def twin(self):
        # The objects are never changed, so both may keep the same ones.
        other = Store(self.tree)
        other.holds = dict(self.holds)
        other.last = self.last
        return other
