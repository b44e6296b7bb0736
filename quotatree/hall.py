"""The hall: it keeps the houses and their holds, is told deeds, and answers each with a row."""

from quotatree.amounts import added, amount_of, amounts_of, is_amount
from quotatree.claims import claims
from quotatree.errors import NoAmount, NoNumber, NoRoom, NoWare
from quotatree.even import even, rooms_of
from quotatree.reasons import bar, most, reason
from quotatree.store import Store
from quotatree.tree import Tree
from quotatree.words import is_whole_from

GREATEST_RANK = 9
MOST_TURNS = 1000


def check_rank(thing):
    if not is_whole_from(thing, 0, GREATEST_RANK):
        raise NoNumber("a rank is a whole number from 0 to 9")


def check_turns(thing):
    if thing is not None and not is_whole_from(thing, 1, MOST_TURNS):
        raise NoNumber("a count of turns is None or a whole number from 1 to 1000")


def check_room(paper):
    if paper is not None:
        raise NoRoom(paper[0], paper[1], paper[2])


class Hall:
    def __init__(self, wares, name, promise, cap, weight=1):
        self.tree = Tree(wares, name, promise, cap, weight)
        self.store = Store(self.tree)

    def found(self, name, elder, promise, cap, weight=1):
        self.tree.found(name, elder, promise, cap, weight)
        return ("found", name, elder, self.tree.promise_of(name), self.tree.cap_of(name), weight)

    def check_ware(self, thing):
        if not isinstance(thing, str) or thing not in self.tree.wares():
            raise NoWare("there is no such ware")

    def read_pieces(self, handed):
        pieces = amounts_of(handed, self.tree.wares())
        if pieces == {}:
            raise NoAmount("nothing is asked for")
        return pieces

    def make_room(self, holds, house, amounts, rank, sure):
        check_room(reason(self.tree, holds, house, amounts, rank, sure))
        given = claims(self.tree, holds, house, amounts, rank, sure)
        for claim in given:
            self.store.drop(claim[0])
        return given

    def ask(self, house, amounts, rank=0, turns=None):
        self.tree.check_house(house)
        pieces = self.read_pieces(amounts)
        check_rank(rank)
        check_turns(turns)
        sure = self.store.fits(house, pieces)
        given = self.make_room(self.store.under(), house, pieces, rank, sure)
        number = self.store.put(house, pieces, rank, turns, sure)
        return ("hold", number, house, pieces, rank, turns, sure, given)

    def grow(self, number, amounts):
        hold = self.store.hold_at(number)
        more = self.read_pieces(amounts)
        together = added(hold.amounts, more)
        sure = self.store.fits(hold.house, together, number)
        others = [other for other in self.store.under() if other.number != number]
        given = self.make_room(others, hold.house, together, hold.rank, sure)
        self.store.change(number, together, sure)
        lifted = self.store.lift(hold.house)
        return ("grow", number, more, sure, given, lifted)

    def back(self, number):
        house = self.store.hold_at(number).house
        self.store.drop(number)
        return ("back", number, self.store.lift(house))

    def turn(self):
        ended = self.store.turn()
        lifted = []
        for name in self.tree.names():
            lifted.extend(self.store.lift(name))
        return ("turn", ended, sorted(lifted))

    def move(self, house, elder):
        self.tree.check_move(house, elder)
        check_room(bar(self.tree, self.store.under(), house, elder))
        self.tree.move(house, elder)
        return ("move", house, elder)

    def use(self, house):
        return self.store.use(house)

    def own(self, house):
        return self.store.own(house)

    def promised(self, house):
        return self.store.promised(house)

    def line(self, house):
        return self.tree.line(house)

    def tell(self, number):
        return self.store.tell(number)

    def numbers(self):
        return self.store.numbers()

    def names(self):
        return self.tree.names()

    def most(self, house, ware, rank=0):
        self.tree.check_house(house)
        self.check_ware(ware)
        check_rank(rank)
        promise = self.tree.promise_of(house)
        promise_left = amount_of(promise, ware) - amount_of(self.store.promised(house), ware)
        return max(promise_left, most(self.tree, self.store.under(), house, ware, rank))

    def check_wants(self, thing):
        if not isinstance(thing, dict):
            raise NoAmount("wants are a dict")
        # All keys go ahead of all values, as with amounts.
        for key in thing:
            self.tree.check_house(key)
        for name in thing:
            if not is_amount(thing[name]):
                raise NoAmount("a want is a whole number from 0 to 10 ** 30")

    def shares(self, ware, wants, weigh=None):
        self.check_ware(ware)
        self.check_wants(wants)
        return even(self.tree, rooms_of(self.tree, self.store.under(), ware), wants, weigh)
