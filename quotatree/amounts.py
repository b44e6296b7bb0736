"""Amounts: dicts from names of wares to whole numbers above 0."""

from quotatree.errors import NoAmount, NoWare
from quotatree.words import is_whole_from


def is_amount(thing):
    return is_whole_from(thing, 0, 10 ** 30)


def amounts_of(handed, wares):
    if not isinstance(handed, dict):
        raise NoAmount("amounts are a dict")
    # All keys go ahead of all values: a ware that isn't known is told first, wherever it stands.
    for key in handed:
        if not isinstance(key, str) or key not in wares:
            raise NoWare("there is no such ware")
    for ware in handed:
        if not is_amount(handed[ware]):
            raise NoAmount("an amount is a whole number from 0 to 10 ** 30")
    return above_nought(handed)


def above_nought(amounts):
    told = {}
    for ware in amounts:
        if amounts[ware] > 0:
            told[ware] = amounts[ware]
    return told


def amount_of(amounts, ware):
    return amounts.get(ware, 0)


def added(one, other):
    told = dict(one)
    for ware in other:
        told[ware] = amount_of(one, ware) + other[ware]
    return told


def within(one, other):
    return beyond(one, other) is None


def beyond(one, other):
    for ware in sorted(one):
        if one[ware] > amount_of(other, ware):
            return ware
    return None


def without(one, other):
    if not within(other, one):
        raise NoAmount("there is less than is to be left out")
    told = {}
    for ware in one:
        told[ware] = one[ware] - amount_of(other, ware)
    return above_nought(told)


def total_of(many):
    total = {}
    for amounts in many:
        total = added(total, amounts)
    return total
