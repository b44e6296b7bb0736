"""Measures: pieces and amounts shown as texts, by the grains of their wares, and read from them."""

from quotatree.amounts import is_amount
from quotatree.errors import NoText, NoWare
from quotatree.parts import divided, parted

FIGURES = "0123456789"
MOST_FIGURES = 31


def show_share(share, grain):
    ones_rest = parted(divided(share, (grain, 1)))
    ones = ones_rest[0]
    top = ones_rest[1][0]
    bottom = ones_rest[1][1]
    if top == 0:
        return str(ones)
    if ones == 0:
        return f"{top}/{bottom}"
    return f"{ones}+{top}/{bottom}"


def show_measure(pieces, grain):
    return show_share((pieces, 1), grain)


def check_text(thing):
    if not isinstance(thing, str):
        raise NoText("this is no text")


def is_number(text):
    if len(text) < 1 or len(text) > MOST_FIGURES:
        return False
    if text[0] == "0" and text != "0":
        return False
    return all([sign in FIGURES for sign in text])


def read_number(text):
    check_text(text)
    if not is_number(text):
        raise NoText("a number is one to thirty-one figures, without noughts ahead")
    return int(text)


def pieces_in(text, grain):
    top_bottom = text.partition("/")
    pieces = read_number(top_bottom[0]) * grain
    if "/" not in text:
        return pieces
    bottom = read_number(top_bottom[2])
    if bottom == 0:
        raise NoText("nothing is divided by 0")
    return pieces // bottom


def read_measure(text, grain):
    check_text(text)
    pieces = sum([pieces_in(part, grain) for part in text.split("+")])
    # Each number of pieces is shown in one way, so a text that says it in another one is told by showing it again.
    if not is_amount(pieces) or show_measure(pieces, grain) != text:
        raise NoText("this is no measure by this grain")
    return pieces


def show_amounts(amounts, grains):
    if amounts == {}:
        return "-"
    return " ".join([ware + ":" + show_measure(amounts[ware], grains[ware]) for ware in sorted(amounts)])


def read_pairs(text):
    check_text(text)
    if text == "-":
        return []
    pairs = []
    for word in text.split(" "):
        if ":" not in word:
            raise NoText("a word has no : in it")
        cut = word.partition(":")
        pairs.append((cut[0], cut[2]))
    return pairs


def check_new(name, ahead):
    if name in ahead:
        raise NoText("a name stands twice")


def read_amounts(text, grains):
    amounts = {}
    for pair in read_pairs(text):
        ware = pair[0]
        if ware not in grains:
            raise NoWare("there is no such ware")
        check_new(ware, amounts)
        pieces = read_measure(pair[1], grains[ware])
        if pieces == 0:
            raise NoText("what is nought is not named")
        amounts[ware] = pieces
    return amounts
