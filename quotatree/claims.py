"""Claims: which holds are ended for an ask."""

from quotatree.amounts import amount_of
from quotatree.reasons import first_lack, fixed, rooms_left


def roomy(tree, holds, house, amounts):
    return first_lack(tree, holds, tree.line(house), amounts) is None


def parts_at(tree, hold, places):
    line = tree.line(hold.house)
    parts = {}
    for place in places:
        parts[place] = amount_of(hold.amounts, place[1]) if place[0] in line else 0
    return parts


def first_beyond(parts, rooms):
    for place in parts:
        if parts[place] > rooms[place]:
            return place
    return None


def claims(tree, holds, house, amounts, rank, sure):
    rooms = rooms_left(tree, fixed(holds, rank, sure), tree.line(house), amounts)
    # Some place lacks room beside the fixed holds just where there is a reason against the ask.
    if any([room < 0 for room in rooms.values()]):
        return None
    given = []
    for hold in [other for other in holds if other.may_end(rank, sure)]:
        parts = parts_at(tree, hold, rooms)
        place = first_beyond(parts, rooms)
        if place is None:
            # What stays takes its room ahead of the later comers.
            for taken in parts:
                rooms[taken] -= parts[taken]
        else:
            given.append((hold.number, hold.house, dict(hold.amounts), place[0], place[1]))
    return given


def left_over(holds, given):
    numbers = [row[0] for row in given]
    return [hold for hold in holds if hold.number not in numbers]


def is_claims(tree, holds, house, amounts, rank, sure, given):
    return given == claims(tree, holds, house, amounts, rank, sure)
