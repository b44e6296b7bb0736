"""Exact fractions: tuples (top, bottom) in lowest terms, bottom from 1 on."""

from quotatree.errors import NoAmount


def divisor(one, other):
    great = abs(one)
    small = abs(other)
    while small > 0:
        rest = great % small
        great = small
        small = rest
    return great


def fraction(top, bottom):
    if bottom == 0:
        raise NoAmount("nothing can be divided by 0")
    shared = divisor(top, bottom)
    if bottom < 0:
        # Dividing both by a number below 0 hands the sign on to the top.
        shared = -shared
    return (top // shared, bottom // shared)


def plus(one, other):
    return fraction(one[0] * other[1] + other[0] * one[1], one[1] * other[1])


def minus(one, other):
    return fraction(one[0] * other[1] - other[0] * one[1], one[1] * other[1])


def times(one, other):
    return fraction(one[0] * other[0], one[1] * other[1])


def divided(one, other):
    # A quotient by nought comes to a bottom of 0, which fraction refuses.
    return fraction(one[0] * other[1], one[1] * other[0])


def below(one, other):
    # No bottom is below 0, so multiplying by both keeps the order.
    return one[0] * other[1] < other[0] * one[1]


def parted(one):
    whole = one[0] // one[1]
    # What divides the rest's top and its bottom divides the top of the one too, so the rest is in lowest terms.
    return (whole, (one[0] - whole * one[1], one[1]))
