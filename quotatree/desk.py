"""The desk: it is told lines, and answers each with a text."""

from quotatree.audit import audit
from quotatree.book import Book
from quotatree.errors import NoRow, NoText, NoWare
from quotatree.measures import check_new, read_amounts, read_measure, read_number, read_pairs
from quotatree.measures import show_amounts, show_measure, show_share
from quotatree.words import is_whole_from

# Of each line how many words its first part has, and how many parts it has.
LINES = {
    "first": (3, 4), "found": (4, 3), "ask": (4, 2), "grow": (2, 2), "back": (2, 1), "turn": (1, 1), "move": (3, 1),
    "use": (2, 1), "own": (2, 1), "promised": (2, 1), "most": (4, 1), "numbers": (1, 1), "tell": (2, 1),
    "share": (2, 2), "audit": (1, 1),
}
DEEDS = ("found", "ask", "grow", "back", "turn", "move")
GREATEST_GRAIN = 1000


def parts_of(line):
    if not isinstance(line, str):
        raise NoRow("a line is a text")
    return line.split(" | ")


def words_of(parts):
    words = parts[0].split(" ")
    if LINES.get(words[0]) != (len(words), len(parts)):
        raise NoRow("there is no such line")
    return words


def read_turns(word):
    return None if word == "-" else read_number(word)


def read_grains(text):
    grains = {}
    for pair in read_pairs(text):
        check_new(pair[0], grains)
        grain = read_number(pair[1])
        if not is_whole_from(grain, 1, GREATEST_GRAIN):
            raise NoText("a grain is a number from 1 to 1000")
        grains[pair[0]] = grain
    return grains


def read_wants(text, grain):
    wants = {}
    for pair in read_pairs(text):
        check_new(pair[0], wants)
        wants[pair[0]] = read_measure(pair[1], grain)
    return wants


def read_deed(words, parts, grains):
    word = words[0]
    if word == "found":
        weight = read_number(words[3])
        return (word, words[1], words[2], read_amounts(parts[1], grains), read_amounts(parts[2], grains), weight)
    if word == "ask":
        rank = read_number(words[2])
        turns = read_turns(words[3])
        return (word, words[1], read_amounts(parts[1], grains), rank, turns)
    if word == "grow":
        return (word, read_number(words[1]), read_amounts(parts[1], grains))
    if word == "back":
        return (word, read_number(words[1]))
    # Turns and moves have nothing but names, which are handed on as they stand.
    return tuple(words)


def show_numbers(numbers):
    if numbers == []:
        return "-"
    return " ".join([str(number) for number in numbers])


def show_sure(sure):
    return "promised" if sure else "borrowed"


def show_had(number, sure, given):
    had = [str(number) + " " + show_sure(sure)]
    return had + [" ".join([str(claim[0]), claim[1], claim[3], claim[4]]) for claim in given]


def show_lifted(lifted):
    return "lifted " + show_numbers(lifted)


def show_refused(row, grain):
    holders = [str(holder[0]) + " " + show_measure(holder[1], grain) for holder in row[4]]
    return ["refused " + row[2] + " " + row[3]] + holders


def answer_parts(row, grains):
    word = row[0]
    if word == "hold":
        return show_had(row[1], row[6], row[7])
    if word == "grow":
        return show_had(row[1], row[3], row[4]) + [show_lifted(row[5])]
    if word == "back":
        return [show_lifted(row[2])]
    if word == "turn":
        return ["ended " + show_numbers(row[1]), show_lifted(row[2])]
    if word == "refused":
        return show_refused(row, grains[row[3]])
    return ["ok"]


def show_hold(hold, grains):
    turns = "-" if hold[4] is None else str(hold[4])
    words = [str(hold[0]), hold[1], str(hold[3]), turns, show_sure(hold[5])]
    return " ".join(words) + " | " + show_amounts(hold[2], grains)


def show_shares(shares, grain):
    if shares == []:
        return "-"
    told = []
    for row in shares:
        paper = "-" if row[2] is None else row[2]
        told.append(" ".join([row[0], show_share(row[1], grain), paper]))
    return " | ".join(told)


def show_audit(rows):
    place = audit(rows)[0]
    if place is None:
        return "true " + str(len(rows))
    return "false " + str(place)


class Desk:
    def __init__(self):
        self.book = None
        self.grains = {}

    def say(self, line):
        parts = parts_of(line)
        words = words_of(parts)
        # A desk is begun once, and ahead of all else.
        if (words[0] == "first") != (self.book is None):
            raise NoRow("this line does not stand here")
        if words[0] == "first":
            return self.begin(words, parts)
        if words[0] in DEEDS:
            row = self.book.do(read_deed(words, parts, self.grains))
            return " | ".join(answer_parts(row, self.grains))
        return self.look_up(words, parts)

    def begin(self, words, parts):
        weight = read_number(words[2])
        grains = read_grains(parts[1])
        promise = read_amounts(parts[2], grains)
        cap = read_amounts(parts[3], grains)
        self.book = Book(list(grains), words[1], promise, cap, weight)
        self.grains = grains
        return "ok"

    def look_up(self, words, parts):
        word = words[0]
        if word == "use":
            return show_amounts(self.book.use(words[1]), self.grains)
        if word == "own":
            return show_amounts(self.book.own(words[1]), self.grains)
        if word == "promised":
            return show_amounts(self.book.promised(words[1]), self.grains)
        if word == "most":
            pieces = self.book.most(words[1], words[2], read_number(words[3]))
            return show_measure(pieces, self.grains[words[2]])
        if word == "numbers":
            return show_numbers(self.book.numbers())
        if word == "tell":
            return show_hold(self.book.tell(read_number(words[1])), self.grains)
        if word == "share":
            return self.share_out(words[1], parts[1])
        return show_audit(self.book.rows())

    def share_out(self, ware, text):
        if ware not in self.grains:
            raise NoWare("there is no such ware")
        wants = read_wants(text, self.grains[ware])
        return show_shares(self.book.shares(ware, wants), self.grains[ware])
