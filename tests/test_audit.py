"""Points 85 to 87: the auditor."""

import copy
import random
import unittest

from quotatree.audit import audit
from quotatree.book import Book, deed_of
from quotatree.errors import NoRoom, TreeError
from quotatree.hall import Hall

VAST = 10 ** 5000
GREAT = 10 ** 30
NAMES = ["top", "mill", "loft", "inn", "barn"]
FIRST = ("first", ["coin", "room"], "top", {"room": 2}, {"room": 20, "coin": 12}, 1)
# A book with a row of each form, with and without holds that were ended or lifted.
ROWS = [
    FIRST,
    ("found", "mill", "top", {"room": 4, "coin": 3}, {"room": 10, "coin": 6}, 2),
    ("found", "loft", "mill", {"room": 2}, {"room": 5}, 1),
    ("found", "inn", "top", {"room": 3, "coin": 2}, {"room": 12, "coin": 8}, 3),
    ("hold", 1, "inn", {"room": 12}, 2, None, False, []),
    ("hold", 2, "mill", {"room": 3}, 0, 2, True, []),
    ("hold", 3, "mill", {"room": 2}, 0, None, False, []),
    ("hold", 4, "loft", {"room": 2}, 7, None, True, []),
    ("refused", ("ask", "mill", {"room": 4, "coin": 1}, 2, 9), "top", "room", [(1, 12), (2, 3), (4, 2)]),
    ("hold", 5, "top", {"room": 2}, 0, 5, True, [(3, "mill", {"room": 2}, "top", "room")]),
    ("turn", [], []),
    ("grow", 2, {"coin": 3}, True, [], []),
    ("refused", ("grow", 2, {"coin": 4}), "mill", "coin", []),
    ("hold", 6, "mill", {"coin": 2}, 1, None, False, []),
    ("refused", ("move", "loft", "inn"), "inn", "room", [(1, 12)]),
    ("back", 1, []),
    ("move", "loft", "inn"),
    ("hold", 7, "loft", {"room": 1}, 3, None, False, []),
    ("hold", 8, "inn", {"room": 9}, 1, None, False, []),
    ("refused", ("ask", "loft", {"room": 1}, 1, None), "inn", "room", [(4, 2), (7, 1), (8, 9)]),
    ("grow", 4, {"room": 1}, False, [(8, "inn", {"room": 9}, "inn", "room")], [7]),
    ("turn", [2], [6]),
    ("found", "barn", "inn", {}, {"coin": 1}, 1000),
    ("hold", 9, "loft", {"room": 1}, 0, 4, True, []),
    ("hold", 10, "mill", {"coin": 3, "room": 4}, 5, None, False, []),
    ("back", 6, [10]),
    ("hold", 11, "mill", {"room": 2}, 0, None, False, []),
    ("refused", ("move", "loft", "mill"), "mill", "room", [(10, 4), (11, 2)]),
    ("back", 9, []),
]
USES = {"top": {"room": 12, "coin": 3}, "mill": {"room": 6, "coin": 3}, "loft": {"room": 4}, "inn": {"room": 4},
        "barn": {}}


def told_again(rows):
    """A book that was told the deeds of these rows."""
    book = Book(*rows[0][1:])
    for row in rows[1:]:
        book.do(deed_of(row))
    return book


def uses_behind(rows):
    """The test's own sums over rows that a book has written; nothing but the rows is looked at."""
    elders, holds = {}, {}
    for row in rows:
        if row[0] == "first":
            elders[row[2]] = None
        if row[0] in ("found", "move"):
            elders[row[1]] = row[2]
        if row[0] == "hold":
            holds[row[1]] = [row[2], dict(row[3])]
        if row[0] == "grow":
            for ware, pieces in row[2].items():
                holds[row[1]][1][ware] = holds[row[1]][1].get(ware, 0) + pieces
        ended = {"hold": lambda: [claim[0] for claim in row[7]], "grow": lambda: [claim[0] for claim in row[4]],
                 "back": lambda: [row[1]], "turn": lambda: row[1]}.get(row[0], list)()
        for number in ended:
            holds.pop(number)
    uses = {name: {} for name in elders}
    for house, amounts in holds.values():
        while house is not None:
            for ware, pieces in amounts.items():
                uses[house][ware] = uses[house].get(ware, 0) + pieces
            house = elders[house]
    return uses


def deed_in(row):
    """The deed of a row behind the first one, as the hall's method and its arguments."""
    if row[0] == "hold":
        return ("ask",) + row[2:6]
    if row[0] == "refused":
        return row[1]
    return row[:{"found": 6, "grow": 3, "back": 2, "turn": 1, "move": 3}[row[0]]]


def first_place(rows):
    """The number of the first row that no hall could have written there, by a hall that is told their deeds."""
    word, wares, name, promise, cap, weight = rows[0] if rows[0][0] == "first" else (None,) * 6
    try:
        hall = Hall(wares, name, promise, cap, weight)
    except TreeError:
        return 0
    if rows[0] != ("first", sorted(wares), name, nonzero(promise), nonzero(cap), weight):
        return 0
    for place, row in enumerate(rows[1:], start=1):
        try:
            if row[0] == "first" or answer_of(hall, deed_in(row)) != row:
                return place
        except TreeError:
            return place
    return None


def nonzero(amounts):
    return {ware: amounts[ware] for ware in amounts if amounts[ware]}


def answer_of(hall, deed):
    try:
        return getattr(hall, deed[0])(*deed[1:])
    except NoRoom as error:
        told = tuple(nonzero(part) if isinstance(part, dict) else part for part in deed)
        return ("refused", told, error.house, error.ware, error.holders)


def with_row(rows, place, row):
    return rows[:place] + [row] + rows[place + 1:]


def with_thing(row, index, thing):
    return row[:index] + (thing,) + row[index + 1:]


def random_rows(seed):
    """The rows of a book that was told drawn deeds, refused ones among them."""
    draws = random.Random(seed)
    book = Book(["room", "coin"], "top", {"room": draws.randint(0, 3)}, {"room": draws.randint(8, 20), "coin": 12}, 1)
    founded = ["top"]
    while len(book.rows()) < draws.randint(15, 30):
        deed = random_deed(draws, founded)
        try:
            if book.do(deed)[0] == "found":
                founded.append(deed[1])
        except TreeError:
            pass
    return book.rows()


def random_deed(draws, founded):
    word = draws.choice(["found"] * 3 + ["ask"] * 6 + ["grow"] * 2 + ["back", "turn"] + ["move"] * 2)
    amounts = {ware: draws.randint(0, 5) for ware in draws.sample(["room", "coin"], draws.randint(1, 2))}
    if word == "found":
        cap = {"room": draws.randint(2, 12), "coin": draws.randint(2, 12)}
        return ("found", draws.choice(NAMES[1:]), draws.choice(founded), {"room": draws.randint(0, 2)}, cap, 1)
    if word == "ask":
        return ("ask", draws.choice(founded), amounts, draws.randint(0, 3), draws.choice((None, 1, 2)))
    if word == "grow":
        return ("grow", draws.randint(1, 9), amounts)
    if word == "back":
        return ("back", draws.randint(1, 9))
    if word == "move":
        return ("move", draws.choice(founded), draws.choice(founded))
    return ("turn",)


class AuditCase(unittest.TestCase):
    def assert_audit(self, rows, place):
        """The place is the one told, the uses are those behind the rows ahead of it, and the rows stay as they are."""
        handed = copy.deepcopy(rows)
        told = audit(rows)
        self.assertIs(type(told), tuple)
        self.assertEqual(told, (place, uses_behind(rows if place is None else rows[:place])))
        self.assertEqual(rows, handed)


class Passed(AuditCase):
    def test_the_rows_are_those_of_a_book(self):
        self.assertEqual(told_again(ROWS).rows(), ROWS)
        words = {"first", "found", "hold", "grow", "back", "turn", "move", "refused"}
        self.assertEqual({row[0] for row in ROWS}, words)
        self.assertEqual(uses_behind(ROWS), USES)

    def test_every_books_rows_pass(self):
        self.assertEqual(audit(ROWS), (None, USES))
        for count in range(1, len(ROWS) + 1):
            with self.subTest(count=count):
                rows = ROWS[:count]
                self.assert_audit(rows, None)
                book = told_again(rows)
                self.assertEqual(audit(rows)[1], {name: book.use(name) for name in audit(rows)[1]})

    def test_drawn_books(self):
        for seed in range(40):
            with self.subTest(seed=seed):
                rows = random_rows(seed)
                self.assert_audit(rows, None)
                self.assertIsNone(first_place(rows))

    def test_no_rows(self):
        self.assertEqual(audit([]), (None, {}))

    def test_houses_that_hold_nothing(self):
        self.assertEqual(audit(ROWS[:1]), (None, {"top": {}}))
        self.assertEqual(audit(ROWS[:4]), (None, {"top": {}, "mill": {}, "loft": {}, "inn": {}}))
        self.assertEqual(audit(ROWS[:5])[1], {"top": {"room": 12}, "mill": {}, "loft": {}, "inn": {"room": 12}})

    def test_what_is_told_is_the_askers_own(self):
        rows = copy.deepcopy(ROWS)
        uses = audit(rows)[1]
        uses["mill"]["room"] = 5
        uses.pop("top")
        self.assertEqual((rows, audit(rows)), (ROWS, (None, USES)))
        uses = audit(rows)[1]
        rows[9][3]["room"] = 99
        rows.clear()
        self.assertEqual(uses, USES)


# Of each row of ROWS some things that stand wrongly there: (place, index of the thing, what stands there).
FORGED = [
    (0, 1, ["room", "coin"]), (0, 1, ["coin"]), (0, 1, []), (0, 1, ["coin", "room", "room"]), (0, 1, ["coin", "Room"]),
    (0, 1, list("abcdefg")), (0, 2, "Top"), (0, 2, ""), (0, 2, "topmostest"), (0, 3, {"room": 2, "coin": 0}),
    (0, 3, {"room": 21}), (0, 3, {"gold": 1}), (0, 3, {"room": -1}), (0, 3, {"gold": 0}),
    (0, 4, {"room": 20, "coin": GREAT + 1}), (0, 4, {"room": 1, "coin": 12}), (0, 4, {"room": 20, "coin": -VAST}),
    (0, 4, {"room": 20, "gold": 5}), (0, 4, {"coin": 12}), (0, 5, 0), (0, 5, 1001), (0, 5, -1), (0, 5, VAST),
    (1, 1, "top"), (1, 1, "Mill"), (1, 1, ""), (1, 2, "nobody"), (1, 2, "mill"), (1, 2, ""),
    (1, 3, {"room": 4, "coin": 7}), (1, 3, {"gold": 3}), (1, 3, {"room": -4}), (1, 4, {"room": 10}),
    (1, 4, {"room": 10, "coin": 2}),
    (1, 4, {"room": 10, "coin": 6, "gold": 0}), (1, 4, {"room": GREAT + 1, "coin": 6}), (1, 5, 0), (1, 5, 1001),
    (2, 1, "mill"), (2, 2, "loft"), (2, 2, "inn"), (2, 3, {"room": 2, "coin": 0}), (2, 4, {"room": 5, "coin": 0}),
    (2, 4, {"room": 1}), (2, 4, {}), (2, 3, {"room": 5, "coin": 1}), (2, 5, -VAST), (3, 3, {"room": 15, "coin": 2}),
    (4, 1, 0), (4, 1, 2), (4, 1, -1), (4, 1, VAST), (4, 2, "nobody"), (4, 2, ""), (4, 2, "top "), (4, 2, "mill"),
    (4, 3, {}), (4, 3, {"room": 13}), (4, 3, {"room": 12, "coin": 0}), (4, 3, {"room": 3}), (4, 3, {"room": -12}),
    (4, 3, {"gold": 1}), (4, 3, {"room": VAST}), (4, 4, -1), (4, 4, 10), (4, 4, VAST), (4, 5, 0), (4, 5, 1001),
    (4, 5, -VAST), (4, 6, True), (4, 7, [(1, "inn", {"room": 12}, "top", "room")]),
    (5, 1, 1), (5, 1, 3), (5, 6, False), (5, 7, [(1, "inn", {"room": 12}, "top", "room")]), (5, 3, {"room": 5}),
    (6, 6, True), (7, 6, False), (7, 2, "mill"),
    (8, 1, ("ask", "mill", {"room": 4, "coin": 0}, 2, 9)), (8, 1, ("ask", "mill", {"room": 3, "coin": 1}, 2, 9)),
    (8, 1, ("ask", "nobody", {"room": 4}, 2, 9)), (8, 1, ("ask", "mill", {"room": 4, "coin": 1}, 2, 0)),
    (8, 1, ("ask", "mill", {"room": 4, "coin": 1}, 10, 9)), (8, 1, ("ask", "mill", {"gold": 4}, 2, 9)),
    (8, 1, ("ask", "inn", {"room": 4, "coin": 1}, 2, 9)), (8, 1, ("ask", "mill", {}, 2, 9)),
    (8, 1, ("ask", "mill", {"room": 4, "coin": 1}, 0, 9)), (8, 1, ("ask", "mill", {"room": 4, "coin": 1}, 3, 9)),
    (8, 1, ("grow", 2, {"room": 4})), (8, 1, ("grow", 99, {"room": 4})), (8, 1, ("back", 1)), (8, 1, ("back", 99)),
    (8, 1, ("turn",)), (8, 1, ("move", "loft", "top")), (8, 1, ("move", "loft", "mill")), (8, 1, ("move", "a", "b")),
    (8, 1, ("found", "barn", "top", {}, {}, 1)), (8, 1, ("found", "mill", "top", {}, {}, 1)),
    (8, 2, "mill"), (8, 2, "nobody"), (8, 2, ""), (8, 2, "inn"), (8, 3, "coin"), (8, 3, "gold"), (8, 3, ""),
    (8, 4, []), (8, 4, [(1, 12), (2, 3)]), (8, 4, [(1, 12), (2, 3), (4, 2), (4, 2)]),
    (8, 4, [(2, 3), (1, 12), (4, 2)]), (8, 4, [(1, 12), (2, 3), (4, 3)]), (8, 4, [(1, 12), (2, 3), (5, 2)]),
    (8, 4, [(1, 12), (2, 3), (3, 2), (4, 2)]), (8, 4, [(1, 12), (2, 3), (4, 2), (99, 0)]), (8, 4, [(VAST, -VAST)]),
    (9, 7, []), (9, 7, [(3, "mill", {"room": 2}, "top", "room")] * 2),
    (9, 7, [(2, "mill", {"room": 2}, "top", "room")]),
    (9, 7, [(3, "inn", {"room": 2}, "top", "room")]), (9, 7, [(3, "mill", {"room": 3}, "top", "room")]),
    (9, 7, [(3, "mill", {"room": 2, "coin": 0}, "top", "room")]), (9, 7, [(3, "mill", {}, "top", "room")]),
    (9, 7, [(3, "mill", {"room": 2}, "mill", "room")]), (9, 7, [(3, "mill", {"room": 2}, "top", "coin")]),
    (9, 7, [(3, "mill", {"room": 2}, "nobody", "gold")]), (9, 7, [(VAST, "", {"": -1}, "", "")]),
    (9, 7, [(1, "inn", {"room": 12}, "top", "room")]),
    (9, 7, [(1, "inn", {"room": 12}, "top", "room"), (3, "mill", {"room": 2}, "top", "room")]),
    (9, 6, False), (9, 1, 3), (9, 3, {"room": 3}),
    (10, 1, [2]), (10, 1, [1]), (10, 2, [3]), (10, 1, [VAST]),
    (11, 1, 1), (11, 1, 3), (11, 1, 99), (11, 1, 0), (11, 1, -VAST), (11, 2, {}), (11, 2, {"coin": 3, "room": 0}),
    (11, 2, {"coin": 4}), (11, 2, {"gold": 1}), (11, 2, {"coin": -3}), (11, 3, False), (11, 4, [(1, "", {}, "", "")]),
    (11, 5, [3]), (11, 5, [2]), (12, 1, ("grow", 2, {"coin": 4, "room": 0})), (12, 4, [(2, 3)]),
    (12, 1, ("grow", 1, {"coin": 4})), (12, 1, ("grow", 2, {"coin": 3})), (13, 6, True),
    (14, 1, ("move", "loft", "top")), (14, 1, ("move", "loft", "nobody")), (14, 1, ("move", "inn", "mill")),
    (14, 1, ("move", "loft", "mill")), (14, 1, ("move", "top", "inn")), (14, 2, "top"), (14, 3, "coin"), (14, 4, []),
    (15, 1, 2), (15, 1, 3), (15, 1, 99), (15, 1, 0), (15, 1, -1), (15, 1, VAST), (15, 2, [1]), (15, 2, [6]),
    (16, 1, "nobody"), (16, 1, "top"), (16, 1, "inn"), (16, 2, "loft"), (16, 2, "mill"), (16, 2, "nobody"), (16, 2, ""),
    (18, 3, {"room": 10}), (19, 4, [(7, 1), (4, 2), (8, 9)]), (19, 4, [(4, 2), (8, 9)]), (19, 2, "loft"),
    (20, 3, True), (20, 4, []), (20, 5, []), (20, 5, [4]), (20, 5, [4, 7]), (20, 5, [7, 7]), (20, 1, 8),
    (20, 4, [(8, "inn", {"room": 9}, "top", "room")]), (20, 4, [(8, "inn", {"room": 9}, "inn", "room")] * 2),
    (21, 1, []), (21, 1, [2, 2]), (21, 1, [2, 5]), (21, 1, [5]), (21, 2, []), (21, 2, [6, 6]), (21, 2, [4, 6]),
    (21, 2, [VAST]), (22, 1, "inn"), (22, 2, "nobody"), (22, 4, {"coin": 0}), (24, 1, 9), (24, 1, 11),
    (24, 7, [(9, "loft", {"room": 1}, "top", "room")]), (25, 1, 7), (25, 1, 99), (25, 2, []), (25, 2, [10, 10]),
    (25, 2, [4, 10]), (27, 1, ("move", "loft", "inn")), (27, 1, ("move", "loft", "top")),
    (27, 1, ("move", "top", "mill")), (27, 2, "top"), (27, 3, "coin"), (27, 4, [(10, 4)]), (28, 1, 2),
    (28, 1, 12), (28, 2, [4]),
]


class Forged(AuditCase):
    def test_a_thing_forged(self):
        for place, index, thing in FORGED:
            rows = with_row(ROWS, place, with_thing(ROWS[place], index, thing))
            with self.subTest(place=place, index=index, forged=FORGED.index((place, index, thing))):
                self.assertNotEqual(rows, ROWS)
                self.assert_audit(rows, place)
                self.assert_audit(rows[:place + 1], place)

    def test_each_thing_of_each_form_is_forged(self):
        forged = {(ROWS[place][0], index) for place, index, thing in FORGED}
        self.assertEqual(forged, {(row[0], index) for row in ROWS for index in range(1, len(row))})

    def test_forged_so_that_a_later_row_cannot_be(self):
        """Such a row can be; the first one that doesn't go with it is named, or none."""
        for place, index, thing, named in (
            (5, 5, 3, 21), (5, 5, 1, 10), (5, 5, None, 21), (9, 5, 2, 21), (6, 4, 9, 8), (0, 5, 9, None),
            (1, 5, 1000, None), (0, 3, {}, 9), (22, 1, "shed", None), (18, 3, {"room": 8}, 19), (16, 2, "top", 19),
            (3, 4, {"room": 12, "coin": 9}, None), (0, 4, {"room": 21, "coin": 12}, 8),
            (8, 1, ("ask", "mill", {"room": 4, "coin": 1}, 2, None), None),
            (8, 1, ("ask", "mill", {"room": 5}, 1, 9), None),
        ):
            rows = with_row(ROWS, place, with_thing(ROWS[place], index, thing))
            with self.subTest(place=place, index=index, thing=thing):
                self.assertEqual(first_place(rows), named)
                self.assert_audit(rows, named)

    def test_uses_stay_those_ahead_of_a_false_row(self):
        """The deed of a false row is not counted, whatever it would have done."""
        for row in (
            ("hold", 12, "loft", {"coin": 1}, 0, None, True, []), ("hold", 9, "mill", {"coin": 1}, 0, None, False, []),
            ("hold", 12, "top", {"room": 1}, 0, None, True, []), ("hold", 12, "inn", {"coin": 1}, 0, None, False, []),
            ("back", 10, [4]), ("back", 10, []), ("grow", 10, {"coin": 1}, True, [], []), ("back", 9, []),
            ("turn", [5], []), ("move", "loft", "barn"),
            ("found", "shed", "top", {"room": 1, "coin": 0}, {"room": 1}, 1),
            ("refused", ("back", 10), "mill", "room", []), ("refused", ("turn",), "mill", "room", []),
            ("refused", ("move", "loft", "top"), "top", "room", []),
            ("refused", ("ask", "inn", {"coin": 1}, 0, None), "inn", "coin", []),
            ("refused", ("grow", 10, {"coin": 1}), "mill", "coin", []),
            ("refused", ("found", "shed", "top", {}, {}, 1), "top", "room", []), FIRST,
        ):
            with self.subTest(row=row):
                self.assertEqual(audit(ROWS + [row]), (len(ROWS), USES))
                self.assertEqual(audit(ROWS + [row] + ROWS), (len(ROWS), USES))

    def test_the_first_false_row_is_named(self):
        rows = with_row(ROWS, 25, ("back", 99, []))
        self.assert_audit(rows, 25)
        rows = with_row(rows, 11, ("back", 99, []))
        self.assert_audit(rows, 11)
        self.assert_audit(with_row(rows, 0, ("turn", [], [])), 0)


class Placed(AuditCase):
    def test_a_first_row_elsewhere(self):
        for place in range(1, len(ROWS) + 1):
            with self.subTest(place=place):
                self.assert_audit(ROWS[:place] + [FIRST] + ROWS[place:], place)
        self.assert_audit([FIRST, FIRST], 1)
        self.assert_audit([FIRST, ("first", ["ale"], "other", {}, {}, 1)], 1)

    def test_another_row_at_the_first_place(self):
        for place in range(1, len(ROWS)):
            with self.subTest(place=place):
                self.assertEqual(audit(ROWS[place:]), (0, {}))
                self.assertEqual(audit([ROWS[place]]), (0, {}))
                self.assertEqual(audit([ROWS[place]] + ROWS), (0, {}))

    def test_a_row_lost(self):
        named = {0: 0, 1: 1, 2: 6, 3: 3, 4: 4, 5: 5, 8: None, 10: 20, 12: None, 14: None, 15: 15, 19: None, 27: None,
                 28: None}
        for place in range(len(ROWS)):
            rows = ROWS[:place] + ROWS[place + 1:]
            with self.subTest(place=place):
                self.assert_audit(rows, first_place(rows))
                if place in named:
                    self.assert_audit(rows, named[place])

    def test_a_row_put_in(self):
        for place in range(len(ROWS) + 1):
            for row in ROWS[1:]:
                rows = ROWS[:place] + [row] + ROWS[place:]
                with self.subTest(place=place, row=row):
                    self.assert_audit(rows, first_place(rows))
        for place, row, expected in (
            (0, ("turn", [], []), 0), (5, ("turn", [], []), None), (6, ("turn", [], []), 11), (9, ROWS[8], None),
            (5, ROWS[4], 5), (2, ROWS[1], 2), (29, ("back", 5, []), None), (29, ("back", 9, []), 29),
            (4, ("move", "inn", "mill"), 5), (4, ("move", "loft", "top"), None), (25, ("back", 10, []), 26),
        ):
            with self.subTest(place=place, row=row):
                self.assert_audit(ROWS[:place] + [row] + ROWS[place:], expected)

    def test_rows_exchanged(self):
        for one in range(len(ROWS)):
            for other in range(one + 1, len(ROWS)):
                rows = list(ROWS)
                rows[one], rows[other] = rows[other], rows[one]
                with self.subTest(one=one, other=other):
                    self.assert_audit(rows, first_place(rows))
        for one, other, expected in (
            (0, 1, 0), (1, 2, 1), (2, 3, None), (4, 5, 4), (23, 24, 23), (21, 22, None), (27, 28, 28),
        ):
            rows = list(ROWS)
            rows[one], rows[other] = rows[other], rows[one]
            with self.subTest(one=one, other=other):
                self.assert_audit(rows, expected)


def forged_thing(draws, thing):
    """Another thing of the same kind, perhaps false."""
    if isinstance(thing, bool):
        return not thing
    if thing is None or isinstance(thing, int):
        return draws.choice((0, 1, 2, 3, 5, -1, 1001, VAST))
    if isinstance(thing, str):
        return draws.choice(NAMES + ["room", "coin", "nobody", ""])
    if isinstance(thing, dict):
        return draws.choice(
            ({}, {"room": 1}, {"coin": 2, "room": 0}, {"gold": 1}, {"room": 3, "coin": 1}, {"room": -1}))
    if isinstance(thing, tuple):
        # Of a deed the word stays.
        place = draws.randrange(isinstance(thing[0], str), len(thing))
        return with_thing(thing, place, forged_thing(draws, thing[place]))
    if not thing:
        return thing
    place = draws.randrange(len(thing))
    between = draws.choice(([], [thing[place]] * 2, [forged_thing(draws, thing[place])]))
    return thing[:place] + between + thing[place + 1:]


class Drawn(AuditCase):
    """Point 87, on drawn books with something forged, lost, put in or exchanged in them."""

    def spoiled(self, draws, rows):
        place, other = draws.randrange(len(rows)), draws.randrange(len(rows))
        way = draws.choice(("forge", "forge", "forge", "lose", "put", "exchange"))
        told = list(rows)
        if way == "forge":
            index = draws.randrange(1, len(rows[place]))
            told[place] = with_thing(rows[place], index, forged_thing(draws, rows[place][index]))
        elif way == "lose":
            told.pop(place)
        elif way == "put":
            told.insert(place, rows[other])
        else:
            told[place], told[other] = told[other], told[place]
        return told

    def test_drawn(self):
        passed = named = 0
        for seed in range(100, 150):
            draws = random.Random(-seed)
            rows = random_rows(seed)
            for time in range(12):
                told = self.spoiled(draws, rows)
                place = first_place(told)
                with self.subTest(seed=seed, time=time):
                    self.assert_audit(told, place)
                passed += place is None and told != rows
                named += place is not None
        self.assertGreater(passed, 20)
        self.assertGreater(named, 200)


if __name__ == "__main__":
    unittest.main()
