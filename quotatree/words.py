"""What counts as a whole number and what as a name."""

LETTERS = "abcdefghijklmnopqrstuvwxyz"
LONGEST_NAME = 8


def is_whole(thing):
    # Python counts True and False among the ints; here they are none.
    return isinstance(thing, int) and not isinstance(thing, bool)


def is_name(thing):
    if not isinstance(thing, str):
        return False
    if len(thing) < 1 or len(thing) > LONGEST_NAME:
        return False
    return all([sign in LETTERS for sign in thing])


def is_whole_from(thing, least, most):
    return is_whole(thing) and least <= thing <= most
