"""Reasons: which place lacks the room for an ask or a move, and who holds it there."""

from quotatree.amounts import amount_of
from quotatree.holds import held_by, holds_beneath


def taking(tree, holds, house, ware):
    there = [hold for hold in holds_beneath(tree, holds, house) if amount_of(hold.amounts, ware) > 0]
    return [(hold.number, hold.amounts[ware]) for hold in there]


def used(tree, holds, house):
    return held_by(holds_beneath(tree, holds, house))


def fixed(holds, rank, sure):
    return [hold for hold in holds if not hold.may_end(rank, sure)]


def rooms_left(tree, holds, line, amounts):
    # The keys come in the order of the places, so whoever walks them meets the first place first.
    rooms = {}
    for at in line:
        cap = tree.cap_of(at)
        use = used(tree, holds, at)
        for ware in sorted(amounts):
            rooms[(at, ware)] = amount_of(cap, ware) - amount_of(use, ware) - amounts[ware]
    return rooms


def first_lack(tree, holds, line, amounts):
    rooms = rooms_left(tree, holds, line, amounts)
    for place in rooms:
        if rooms[place] < 0:
            return (place[0], place[1], taking(tree, holds, place[0], place[1]))
    return None


def reason(tree, holds, house, amounts, rank, sure):
    return first_lack(tree, fixed(holds, rank, sure), tree.line(house), amounts)


def is_reason(tree, holds, house, amounts, rank, sure, paper):
    return paper == reason(tree, holds, house, amounts, rank, sure)


def most(tree, holds, house, ware, rank):
    rooms = rooms_left(tree, fixed(holds, rank, False), tree.line(house), {ware: 0})
    # Holds beyond a limit leave less than no room, which is no number to ask for.
    return max(0, min(rooms.values()))


def bar(tree, holds, house, elder):
    own_line = tree.line(house)
    # Houses on both lines have the moved holds beneath them already.
    new_elders = [at for at in tree.line(elder) if at not in own_line]
    return first_lack(tree, holds, new_elders, used(tree, holds, house))


def is_bar(tree, holds, house, elder, paper):
    return paper == bar(tree, holds, house, elder)
