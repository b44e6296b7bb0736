"""Points 81 to 84: the book, its deeds and its rows."""

import copy
import random
import unittest

from quotatree.book import Book, deed_of
from quotatree.errors import (
    NoAmount, NoDeed, NoHold, NoHouse, NoMove, NoName, NoNumber, NoPromise, NoRoom, NoWare, Taken, TooDeep, TooMany,
    TreeError,
)
from quotatree.hall import Hall

VAST = 10 ** 5000
GREAT = 10 ** 30
WARES = ["coin", "room", "spare"]
FOUNDINGS = (
    ("found", "mill", "top", {"room": 4, "coin": 3}, {"room": 10, "coin": 6}, 2),
    ("found", "loft", "mill", {"room": 2}, {"room": 5}, 1),
    ("found", "inn", "top", {"room": 3, "coin": 2}, {"room": 12, "coin": 8}, 3),
)
# With the houses founded: one deed of each form, in an order in which the hall does them all.
EACH_FORM = (
    ("found", "barn", "inn", {"room": 1}, {"room": 2, "coin": 1}, 1000),
    ("ask", "inn", {"room": 9}, 2, None), ("ask", "mill", {"room": 4}, 0, 3), ("grow", 2, {"coin": 1}),
    ("move", "loft", "inn"), ("turn",), ("back", 2),
)
# Tuples that have a deed's word and another count of things; those of the deed itself may be wrong as well.
OTHER_COUNTS = tuple(deed[:-1] for deed in EACH_FORM if len(deed) > 1) + tuple(
    deed + (thing,) for deed in EACH_FORM for thing in (None, 1, "top", {})
) + (
    ("found",), ("ask",), ("grow",), ("back",), ("move",), ("ask", "top", {"room": 1}), ("ask", "top", {"room": 1}, 0),
    ("found", "barn", "inn", {}, {}), ("ask", "nobody", {"gold": -1}), ("grow", 99), ("back", 99, 99),
    ("move", "top"), ("move", "nobody", "nobody", "nobody"), ("turn", "turn"), ("turn", None),
    ("found", "Barn", "nobody", 5, 5, 0, 0),
)
NO_DEEDS = (
    None, True, False, 0, 1, -1, VAST, 1.5, "", "turn", "back", b"turn", [], ["turn"], ["back", 1], [("turn",)],
    ["ask", "top", {"room": 1}, 0, None], {}, {"turn": ()}, {"turn"}, frozenset(["turn"]), len, object(), NoDeed,
    (), (None,), (True,), (1,), (VAST,), (b"turn",), (("turn",),), (["turn"],), ({},), ({"turn": 1},), ({"turn"},),
    (["ask"], "top", {"room": 1}, 0, None), ({}, "loft", "inn"), (None, 1), (1, "back"), (object(),),
    ("",), ("Turn",), ("turn ",), (" turn",), ("turns",), ("TURN",), ("t",), ("turn\n",), ("take", 1), ("move ", 1, 2),
    ("first", ["room"], "top", {}, {"room": 1}, 1), ("hold", 1, "top", {"room": 1}, 0, None, True, []),
    ("hold", "top", {"room": 1}, 0, None), ("refused", ("turn",), "top", "room", []), ("turn", [], []),
    ("back", 1, []), ("grow", 1, {"room": 1}, True, [], []), ("use", "top"), ("tell", 1), ("numbers",),
    ("Ask", 1, 2, 3, 4),
) + OTHER_COUNTS


def bare():
    return Book(["room", "coin", "spare"], "top", {"room": 2}, {"room": 20, "coin": 12, "spare": 1000})


def houses():
    """top above mill (above loft) and inn; loft's limit does not name coin."""
    book = bare()
    for deed in FOUNDINGS:
        book.do(deed)
    return book


def full():
    """mill's limit in rooms is reached by loans and by a promised hold, inn's in coin by a loan of rank 9."""
    book = houses()
    book.do(("ask", "mill", {"room": 6}, 5, None))
    book.do(("ask", "mill", {"room": 4}, 0, None))
    book.do(("ask", "inn", {"coin": 8}, 9, 4))
    return book


def all_told(book):
    """All that is to be seen of a book, and of what it would do next."""
    names = sorted([row[2 if row[0] == "first" else 1] for row in book.rows() if row[0] in ("first", "found")])
    later = copy.deepcopy(book)
    return copy.deepcopy((
        book.rows(), book.numbers(), [book.tell(number) for number in book.numbers()],
        [(book.use(name), book.own(name), book.promised(name)) for name in names],
        [book.most(name, ware, rank) for name in names for ware in WARES for rank in (0, 5, 9)],
        [book.shares(ware, {name: GREAT for name in names}) for ware in WARES],
        later.do(("ask", "top", {"spare": 1}, 0, None)), later.do(("turn",)), later.rows(),
    ))


def done_by_hall(hall, deed):
    return getattr(hall, deed[0])(*deed[1:])


class BookCase(unittest.TestCase):
    def assert_refused(self, book, refusal, deed):
        before = all_told(book)
        with self.assertRaises(TreeError) as caught:
            book.do(deed)
        self.assertIs(type(caught.exception), refusal)
        self.assertEqual(all_told(book), before)
        return caught.exception


class Deeds(BookCase):
    """Point 81."""

    def test_each_form_is_done(self):
        book = houses()
        hall = Hall(["room", "coin", "spare"], "top", {"room": 2}, {"room": 20, "coin": 12, "spare": 1000})
        rows = book.rows()
        for deed in FOUNDINGS:
            done_by_hall(hall, deed)
        for deed in EACH_FORM:
            with self.subTest(deed=deed):
                row = book.do(deed)
                self.assertEqual(row, done_by_hall(hall, deed))
                self.assertIs(type(row), tuple)
                rows.append(row)
                self.assertEqual(book.rows(), rows)
        self.assertEqual({deed[0] for deed in EACH_FORM}, {"found", "ask", "grow", "back", "turn", "move"})

    def test_what_is_no_deed(self):
        for place, thing in enumerate(NO_DEEDS):
            with self.subTest(place=place):
                self.assert_refused(full(), NoDeed, thing)

    def test_what_is_no_deed_in_a_new_book(self):
        book = bare()
        for place, thing in enumerate(NO_DEEDS):
            with self.subTest(place=place):
                self.assert_refused(book, NoDeed, thing)
        self.assertEqual(len(book.rows()), 1)


class Making(unittest.TestCase):
    """Of points 82 and 83: how a book is made, and its first row."""

    def test_the_first_row(self):
        for things, row in (
            ((["room"], "top", {}, {"room": 5}), ("first", ["room"], "top", {}, {"room": 5}, 1)),
            ((["room"], "top", {}, {}, 1), ("first", ["room"], "top", {}, {}, 1)),
            ((["room", "coin", "ale"], "a", {"room": 0, "ale": 2}, {"ale": GREAT, "coin": 0, "room": 1}, 1000),
             ("first", ["ale", "coin", "room"], "a", {"ale": 2}, {"ale": GREAT, "room": 1}, 1000)),
            ((list("fedcba"), "zzzzzzzz", {"f": 0}, {"f": 0}, 7), ("first", list("abcdef"), "zzzzzzzz", {}, {}, 7)),
        ):
            with self.subTest(things=things):
                handed = copy.deepcopy(things)
                book = Book(*things)
                self.assertEqual(book.rows(), [row])
                self.assertEqual(things, handed)
                self.assertEqual(book.numbers(), [])
                self.assertEqual((book.use(things[1]), book.own(things[1]), book.promised(things[1])), ({}, {}, {}))

    def test_refused_as_a_hall_is(self):
        for things, refusal in (
            ((None, "top", {}, {}), NoWare), (([], "top", {}, {}), NoWare), ((["room", "room"], "top", {}, {}), NoWare),
            ((("room",), "top", {}, {}), NoWare), ((["Room"], "Top", 5, 5, 0), NoWare),
            ((list("abcdefg"), "top", {}, {}), NoWare), ((["room"], "Top", {}, {}), NoName),
            ((["room"], None, 5, 5, 0), NoName), ((["room"], "top", 5, {"gold": 1}), NoAmount),
            ((["room"], "top", {"gold": 1}, 5, 0), NoWare), ((["room"], "top", {}, [], 0), NoAmount),
            ((["room"], "top", {}, {"gold": 1}, 0), NoWare), ((["room"], "top", {}, {"room": GREAT + 1}, 0), NoAmount),
            ((["room"], "top", {"room": 9}, {}, 0), NoNumber), ((["room"], "top", {}, {}, 1001), NoNumber),
            ((["room"], "top", {}, {}, True), NoNumber), ((["room"], "top", {}, {}, None), NoNumber),
            ((["room"], "top", {"room": 9}, {"room": 8}, 5), NoPromise),
        ):
            with self.subTest(things=things):
                for makes in (Hall, Book):
                    with self.assertRaises(TreeError) as caught:
                        makes(*things)
                    self.assertIs(type(caught.exception), refusal)
                    if refusal is NoPromise:
                        self.assertEqual((caught.exception.house, caught.exception.ware), ("top", "room"))

    def test_what_is_handed_in_is_not_kept(self):
        wares, promise, cap = ["room", "coin"], {"room": 2, "coin": 0}, {"room": 5, "coin": 1}
        book = Book(wares, "top", promise, cap, 4)
        wares.clear(), promise.clear(), cap.clear()
        self.assertEqual(book.rows(), [("first", ["coin", "room"], "top", {"room": 2}, {"room": 5, "coin": 1}, 4)])
        self.assertEqual(book.most("top", "coin"), 1)

    def test_a_hall_of_its_own(self):
        one, other = houses(), houses()
        before = all_told(other)
        for deed in EACH_FORM:
            one.do(deed)
        self.assertEqual(all_told(other), before)


class Doing(BookCase):
    """Point 82."""

    def assert_roomless(self, book, deed, row):
        before, handed = all_told(book), copy.deepcopy(deed)
        self.assertEqual(book.do(deed), row)
        self.assertEqual(deed, handed)
        self.assertEqual(book.rows(), before[0] + [row])
        # Nothing but the row is there: no hold is ended, no number used.
        self.assertEqual(all_told(book)[1:-1], before[1:-1])

    def test_an_ask_that_finds_no_room(self):
        for deed, row in (
            (("ask", "mill", {"room": 1}, 5, None),
             ("refused", ("ask", "mill", {"room": 1}, 5, None), "mill", "room", [(1, 6), (2, 4)])),
            (("ask", "mill", {"room": 1, "coin": 0, "spare": 0}, 0, 7),
             ("refused", ("ask", "mill", {"room": 1}, 0, 7), "mill", "room", [(1, 6), (2, 4)])),
            (("ask", "mill", {"room": 7}, 9, 1000),
             ("refused", ("ask", "mill", {"room": 7}, 9, 1000), "mill", "room", [(2, 4)])),
            (("ask", "loft", {"coin": 1, "room": 1}, 9, None),
             ("refused", ("ask", "loft", {"coin": 1, "room": 1}, 9, None), "loft", "coin", [])),
            (("ask", "top", {"coin": 5, "room": 0}, 9, 1),
             ("refused", ("ask", "top", {"coin": 5}, 9, 1), "top", "coin", [(3, 8)])),
            (("ask", "inn", {"spare": GREAT}, 0, None),
             ("refused", ("ask", "inn", {"spare": GREAT}, 0, None), "inn", "spare", [])),
        ):
            with self.subTest(deed=deed):
                self.assert_roomless(full(), deed, row)

    def test_a_growth_that_finds_no_room(self):
        for deed, row in (
            (("grow", 1, {"room": 1}), ("refused", ("grow", 1, {"room": 1}), "mill", "room", [(2, 4)])),
            (("grow", 2, {"room": 1, "coin": 0}), ("refused", ("grow", 2, {"room": 1}), "mill", "room", [(1, 6)])),
            (("grow", 3, {"spare": 1, "coin": 0}), ("refused", ("grow", 3, {"spare": 1}), "inn", "spare", [])),
            (("grow", 3, {"coin": 1}), ("refused", ("grow", 3, {"coin": 1}), "inn", "coin", [])),
        ):
            with self.subTest(deed=deed):
                self.assert_roomless(full(), deed, row)

    def test_a_move_that_finds_no_room(self):
        book = houses()
        book.do(("move", "loft", "top"))
        for deed in (("ask", "loft", {"room": 2}, 0, None), ("ask", "mill", {"room": 4}, 0, None),
                     ("ask", "mill", {"room": 5}, 0, None), ("ask", "inn", {"room": 3}, 0, None)):
            book.do(deed)
        self.assert_roomless(book, ("move", "loft", "mill"),
                             ("refused", ("move", "loft", "mill"), "mill", "room", [(2, 4), (3, 5)]))

    def test_what_is_refused_otherwise_is_raised(self):
        for deed, refusal in (
            (("found", "Barn", "nobody", 5, 5, 0), NoName), (("found", "", "top", {}, {}, 1), NoName),
            (("found", None, "top", {}, {}, 1), NoName), (("found", "mill", "nobody", 5, 5, 0), Taken),
            (("found", "barn", "nobody", 5, 5, 0), NoHouse), (("found", "barn", None, {}, {}, 1), NoHouse),
            (("found", "barn", "inn", 5, {"gold": 1}, 0), NoAmount),
            (("found", "barn", "inn", {"gold": 1}, 5, 0), NoWare),
            (("found", "barn", "inn", {}, {"room": -1}, 0), NoAmount),
            (("found", "barn", "inn", {}, {"gold": 0}, 0), NoWare),
            (("found", "barn", "inn", {"room": 9}, {}, 0), NoNumber),
            (("found", "barn", "inn", {}, {}, 1001), NoNumber),
            (("found", "barn", "inn", {}, {}, None), NoNumber), (("found", "barn", "inn", {}, {}, True), NoNumber),
            (("ask", "nobody", 5, 10, 0), NoHouse), (("ask", None, {"room": 1}, 0, None), NoHouse),
            (("ask", "mill", None, 10, 0), NoAmount), (("ask", "mill", {"gold": 1}, 10, 0), NoWare),
            (("ask", "mill", {"room": GREAT + 1}, 10, 0), NoAmount), (("ask", "mill", {}, 10, 0), NoAmount),
            (("ask", "mill", {"room": 0}, 10, 0), NoAmount), (("ask", "mill", {"room": 99}, 10, 0), NoNumber),
            (("ask", "mill", {"room": 99}, True, None), NoNumber), (("ask", "mill", {"room": 99}, 9, 0), NoNumber),
            (("ask", "mill", {"room": 99}, 9, 1001), NoNumber), (("ask", "mill", {"room": 99}, None, None), NoNumber),
            (("grow", 99, 5), NoHold), (("grow", None, {"room": 1}), NoHold), (("grow", True, {"room": 1}), NoHold),
            (("grow", 0, {"room": 1}), NoHold), (("grow", "1", {"room": 1}), NoHold), (("grow", 1, 5), NoAmount),
            (("grow", 1, {"gold": 99}), NoWare), (("grow", 1, {}), NoAmount), (("grow", 1, {"room": 0}), NoAmount),
            (("grow", 1, {"room": -99}), NoAmount), (("back", 99), NoHold), (("back", None), NoHold),
            (("back", True), NoHold), (("back", "1"), NoHold), (("back", VAST), NoHold), (("back", ()), NoHold),
            (("move", "nobody", "mill"), NoHouse), (("move", "mill", "nobody"), NoHouse), (("move", None, 1), NoHouse),
            (("move", "top", "mill"), NoMove), (("move", "mill", "loft"), NoMove), (("move", "mill", "top"), NoMove),
            (("move", "mill", "mill"), NoMove),
        ):
            with self.subTest(refusal=refusal, things=[thing for thing in deed if thing is not VAST]):
                self.assert_refused(full(), refusal, deed)

    def test_the_fields_of_no_promise(self):
        book = full()
        deed = ("found", "barn", "mill", {"coin": 4, "room": 4}, {"coin": 4, "room": 4}, 1)
        error = self.assert_refused(book, NoPromise, deed)
        self.assertEqual((error.house, error.ware), ("mill", "coin"))
        book.do(("found", "barn", "top", {"coin": 3}, {"coin": 3}, 1))
        book.do(("found", "shed", "barn", {}, {"coin": 3}, 1))
        # mill's limit in coin would do for its own promise and for barn's; that of loft would not.
        error = self.assert_refused(book, NoPromise, ("move", "barn", "loft"))
        self.assertEqual((error.house, error.ware), ("loft", "coin"))

    def test_too_many_and_too_deep(self):
        book = bare()
        names = [one + other for one in "abcd" for other in "abcdefghij"]
        for place, name in enumerate(names[:11]):
            book.do(("found", name, names[place - 1] if place else "top", {}, {}, 1))
        self.assert_refused(book, TooDeep, ("found", "deep", names[10], {}, {}, 1))
        for name in names[11:39]:
            book.do(("found", name, "top", {}, {}, 1))
        self.assert_refused(book, TooMany, ("found", "many", names[10], {}, {}, 1))
        self.assert_refused(book, TooDeep, ("move", names[20], names[10]))

    def test_what_is_handed_in_is_not_kept(self):
        promise, cap, more, too_much = {"room": 1}, {"room": 2}, {"room": 1}, {"room": 9, "coin": 0}
        book = houses()
        book.do(("found", "barn", "inn", promise, cap, 1))
        book.do(("ask", "barn", more, 0, None))
        book.do(("grow", 1, more))
        row = book.do(("ask", "barn", too_much, 0, None))
        self.assertEqual(row, ("refused", ("ask", "barn", {"room": 9}, 0, None), "barn", "room", [(1, 2)]))
        self.assertEqual((promise, cap, more), ({"room": 1}, {"room": 2}, {"room": 1}))
        self.assertEqual(too_much, {"room": 9, "coin": 0})
        before = all_told(book)
        for amounts in (promise, cap, more, too_much):
            amounts["room"] = 77
        self.assertEqual(all_told(book), before)

    def test_rows_of_deeds_beside_a_hall(self):
        """Each deed is told to a book and to a hall; what the hall refuses for want of room is the test's own row."""
        seen = {}
        for seed in range(40):
            draws = random.Random(seed)
            book = houses()
            hall = Hall(["room", "coin", "spare"], "top", {"room": 2}, {"room": 20, "coin": 12, "spare": 1000})
            for deed in FOUNDINGS:
                done_by_hall(hall, deed)
            rows = book.rows()
            for time in range(40):
                deed = draw_deed(draws)
                answer = self.answer_of_hall(hall, deed)
                with self.subTest(seed=seed, time=time, deed=deed):
                    if isinstance(answer, type):
                        with self.assertRaises(answer):
                            book.do(deed)
                    else:
                        self.assertEqual(book.do(deed), answer)
                        rows.append(answer)
                    self.assertEqual(book.rows(), rows)
                    key = (deed[0], answer.__name__ if isinstance(answer, type) else answer[0])
                    seen[key] = seen.get(key, 0) + 1
            self.assert_tells_as(book, hall)
        for key in (("ask", "hold"), ("ask", "refused"), ("ask", "NoAmount"), ("grow", "grow"), ("grow", "refused"),
                    ("grow", "NoHold"), ("back", "back"), ("back", "NoHold"), ("turn", "turn"), ("move", "move"),
                    ("move", "NoMove"), ("move", "NoPromise"), ("move", "refused")):
            self.assertGreater(seen.get(key, 0), 3, key)

    def answer_of_hall(self, hall, deed):
        try:
            return done_by_hall(hall, deed)
        except NoRoom as error:
            told = tuple({ware: part[ware] for ware in part if part[ware]} if isinstance(part, dict) else part
                         for part in deed)
            return ("refused", told, error.house, error.ware, error.holders)
        except TreeError as error:
            return type(error)

    def assert_tells_as(self, book, hall):
        self.assertEqual(book.numbers(), hall.numbers())
        for number in hall.numbers():
            self.assertEqual(book.tell(number), hall.tell(number))
        for name in hall.names():
            self.assertEqual((book.use(name), book.own(name), book.promised(name)),
                             (hall.use(name), hall.own(name), hall.promised(name)))
            for ware in WARES:
                self.assertEqual(book.most(name, ware), hall.most(name, ware))
                self.assertEqual(book.most(name, ware, 6), hall.most(name, ware, 6))


def draw_deed(draws):
    word = draws.choice(["ask"] * 6 + ["grow"] * 3 + ["back", "back", "turn"] + ["move"] * 4)
    if word == "turn":
        return ("turn",)
    if word == "back":
        return ("back", draws.randint(1, 15))
    if word == "move":
        return ("move", draws.choice(("loft", "inn", "mill")), draws.choice(("top", "mill", "inn", "loft")))
    amounts = {ware: draws.randint(0, 4) for ware in draws.sample(["room", "coin"], draws.randint(1, 2))}
    if word == "grow":
        return ("grow", draws.randint(1, 15), amounts)
    house = draws.choice(("top", "mill", "loft", "inn"))
    return ("ask", house, amounts, draws.randint(0, 9), draws.choice((None, 1, 2, 9)))


# A row of each form, with the deed that it tells (84).
FORMS = (
    (("first", ["coin", "room"], "top", {"room": 1}, {"room": 2}, 1), None),
    (("found", "mill", "top", {"room": 4}, {"room": 10, "coin": 6}, 2),
     ("found", "mill", "top", {"room": 4}, {"room": 10, "coin": 6}, 2)),
    (("hold", 7, "mill", {"room": 4}, 3, 12, True, [(1, "inn", {"room": 12}, "top", "room")]),
     ("ask", "mill", {"room": 4}, 3, 12)),
    (("hold", 1, "mill", {"coin": 4}, 0, None, False, []), ("ask", "mill", {"coin": 4}, 0, None)),
    (("grow", 7, {"room": 1}, False, [(1, "inn", {"room": 12}, "top", "room")], [2, 3]), ("grow", 7, {"room": 1})),
    (("back", 7, [8, 9]), ("back", 7)), (("back", 7, []), ("back", 7)),
    (("turn", [1, 2], [3]), ("turn",)), (("turn", [], []), ("turn",)),
    (("move", "loft", "inn"), ("move", "loft", "inn")),
    (("refused", ("ask", "mill", {"room": 5}, 5, None), "mill", "room", [(1, 6), (2, 4)]),
     ("ask", "mill", {"room": 5}, 5, None)),
    (("refused", ("grow", 2, {"room": 1}), "mill", "room", []), ("grow", 2, {"room": 1})),
    (("refused", ("move", "loft", "mill"), "mill", "room", [(1, 6)]), ("move", "loft", "mill")),
    # Whatever deed stands in it, and whatever the things say.
    (("refused", ("turn",), "", "", []), ("turn",)), (("refused", ("back", VAST), "", "", []), ("back", VAST)),
    (("refused", ("found", "", "", {"": 0}, {}, -1), "", "", []), ("found", "", "", {"": 0}, {}, -1)),
    (("hold", -1, "", {"gold": 0, "": -5}, 99, -3, False, []), ("ask", "", {"gold": 0, "": -5}, 99, -3)),
)


def dicts_in(thing):
    if isinstance(thing, dict):
        return [thing]
    return [found for part in thing for found in dicts_in(part)] if isinstance(thing, (list, tuple)) else []


class Rows(BookCase):
    """Points 83 and 84."""

    def test_each_form_of_row(self):
        book = houses()
        for deed in EACH_FORM:
            book.do(deed)
        book.do(("ask", "inn", {"spare": 1, "room": 0}, 0, None))
        self.assertEqual(book.rows(), [
            ("first", ["coin", "room", "spare"], "top", {"room": 2}, {"room": 20, "coin": 12, "spare": 1000}, 1),
            ("found", "mill", "top", {"room": 4, "coin": 3}, {"room": 10, "coin": 6}, 2),
            ("found", "loft", "mill", {"room": 2}, {"room": 5}, 1),
            ("found", "inn", "top", {"room": 3, "coin": 2}, {"room": 12, "coin": 8}, 3),
            ("found", "barn", "inn", {"room": 1}, {"room": 2, "coin": 1}, 1000),
            ("hold", 1, "inn", {"room": 9}, 2, None, False, []), ("hold", 2, "mill", {"room": 4}, 0, 3, True, []),
            ("grow", 2, {"coin": 1}, True, [], []), ("move", "loft", "inn"), ("turn", [], []), ("back", 2, []),
            ("refused", ("ask", "inn", {"spare": 1}, 0, None), "inn", "spare", []),
        ])

    def test_rows_with_holds_that_were_ended_and_lifted(self):
        book = houses()
        book.do(("ask", "inn", {"room": 12}, 2, None))
        book.do(("ask", "mill", {"room": 3}, 0, 1))
        book.do(("ask", "mill", {"room": 2}, 0, None))
        self.assertEqual(book.do(("ask", "top", {"room": 2}, 0, None)),
                         ("hold", 4, "top", {"room": 2}, 0, None, True, []))
        self.assertEqual(book.do(("ask", "mill", {"room": 5, "coin": 0}, 3, None)),
                         ("hold", 5, "mill", {"room": 5}, 3, None, False, [(1, "inn", {"room": 12}, "top", "room")]))
        self.assertEqual(book.do(("turn",)), ("turn", [2], [3]))
        self.assertEqual(book.do(("grow", 3, {"room": 2, "coin": 0})), ("grow", 3, {"room": 2}, True, [], []))
        self.assertEqual(book.do(("back", 3)), ("back", 3, []))
        words = ["first"] + ["found"] * 3 + ["hold"] * 5 + ["turn", "grow", "back"]
        self.assertEqual([row[0] for row in book.rows()], words)

    def test_the_deed_of_each_form(self):
        self.assertEqual({row[0] for row, deed in FORMS},
                         {"first", "found", "hold", "grow", "back", "turn", "move", "refused"})
        for place, (row, deed) in enumerate(FORMS):
            with self.subTest(place=place):
                handed = copy.deepcopy(row)
                told = deed_of(row)
                self.assertEqual(told, deed)
                self.assertEqual(row, handed)
                if deed is not None:
                    self.assertIs(type(told), tuple)

    def test_the_deed_is_a_new_one(self):
        for place, (row, deed) in enumerate(FORMS[1:]):
            with self.subTest(place=place):
                handed = copy.deepcopy(row)
                one, other = deed_of(row), deed_of(row)
                self.assertIsNot(one, row)
                self.assertIsNot(one, row[1])
                for amounts in dicts_in(one):
                    amounts["more"] = 5
                self.assertEqual((row, other, deed_of(row)), (handed, deed, deed))

    def test_deeds_told_again_write_the_same_rows(self):
        book = full()
        too_much = ("ask", "mill", {"room": 1}, 0, None)
        for deed in (("move", "loft", "inn"), too_much, ("grow", 3, {"coin": 1}), ("turn",)):
            book.do(deed)
        other = bare()
        for row in book.rows()[1:]:
            other.do(deed_of(row))
        self.assertEqual(other.rows(), book.rows())

    def some_deeds(self, book):
        """Rows of all forms that deeds have, with lists and dicts in them that have something in them."""
        return [book.do(deed) for deed in (
            ("found", "barn", "inn", {"room": 1}, {"room": 1}, 1), ("ask", "top", {"room": 2}, 9, 5),
            ("ask", "mill", {"room": 7, "coin": 0}, 0, 3), ("grow", 3, {"coin": 1}),
            ("ask", "mill", {"room": 1}, 6, 1), ("ask", "mill", {"coin": 4}, 6, None),
            ("ask", "mill", {"coin": 1}, 6, 1), ("turn",), ("grow", 2, {"coin": 1}), ("back", 2),
            ("move", "loft", "inn"),
        )]

    def test_rows_told_stay_as_they_are(self):
        book = full()
        told = self.some_deeds(book)
        self.assertEqual({row[0] for row in told}, {"found", "hold", "refused", "turn", "grow", "back", "move"})
        rows = book.rows()
        self.assertEqual(rows[-len(told):], told)
        kept = copy.deepcopy((rows, told))
        for deed in (("turn",), ("back", 3), ("ask", "inn", {"room": 1}, 0, None)):
            book.do(deed)
        self.assertEqual((rows, told), kept)

    def test_rows_told_are_the_askers_own(self):
        for spoil in (spoil_rows, spoil_parts):
            book = full()
            told = self.some_deeds(book)
            before = all_told(book)
            spoil(told)
            spoil(book.rows())
            for name in ("top", "mill", "inn"):
                spoil([book.use(name), book.own(name), book.promised(name), book.numbers()])
                spoil([book.shares("room", {name: 1})])
            spoil([book.tell(number) for number in book.numbers()])
            self.assertEqual(all_told(book), before)


def spoil_rows(rows):
    rows.clear()


def spoil_parts(thing):
    """Changes every list and dict within."""
    if isinstance(thing, dict):
        thing["spoiled"] = 1
    elif isinstance(thing, (list, tuple)):
        for part in thing:
            spoil_parts(part)
        if isinstance(thing, list):
            thing.append("spoiled")


class Telling(BookCase):
    """What a book tells as its hall does; its refusals are those of the hall."""

    def both(self):
        book = full()
        hall = Hall(["room", "coin", "spare"], "top", {"room": 2}, {"room": 20, "coin": 12, "spare": 1000})
        for row in book.rows()[1:]:
            done_by_hall(hall, deed_of(row))
        return book, hall

    def test_told(self):
        book, hall = self.both()
        self.assertEqual((book.use("top"), book.own("top"), book.promised("top")), ({"room": 10, "coin": 8}, {}, {}))
        self.assertEqual((book.own("mill"), book.promised("mill")), ({"room": 10}, {"room": 4}))
        self.assertEqual((book.numbers(), book.tell(3)), ([1, 2, 3], (3, "inn", {"coin": 8}, 9, 4, False)))
        self.assertEqual((book.most("mill", "room"), book.most("mill", "room", 6)), (0, 6))
        for ware in WARES:
            for name in ("top", "mill", "loft", "inn"):
                for rank in range(10):
                    self.assertEqual(book.most(name, ware, rank), hall.most(name, ware, rank))
                self.assertEqual(book.most(name, ware), hall.most(name, ware, 0))
            wants = {"top": 3, "mill": 5, "loft": 0, "inn": 20}
            self.assertEqual(book.shares(ware, wants), hall.shares(ware, wants))
            self.assertEqual(book.shares(ware, wants, len), hall.shares(ware, wants, len))
            self.assertEqual(book.shares(ware, wants, None), hall.shares(ware, wants))
        self.assertNotEqual(book.shares("room", wants), book.shares("room", wants, lambda name: 1))
        self.assertEqual(book.shares("room", {}), [])

    def test_refused(self):
        book = self.both()[0]
        before = all_told(book)
        for does, things, refusal in (
            (book.use, ("nobody",), NoHouse), (book.use, (None,), NoHouse), (book.own, ([],), NoHouse),
            (book.own, (None,), NoHouse), (book.promised, (1,), NoHouse), (book.promised, (None,), NoHouse),
            (book.tell, (99,), NoHold), (book.tell, (True,), NoHold), (book.tell, (None,), NoHold),
            (book.tell, ([1],), NoHold), (book.most, ("nobody", "gold", 10), NoHouse),
            (book.most, ("mill", "gold", 10), NoWare), (book.most, ("mill", [], 10), NoWare),
            (book.most, ("mill", "room", 10), NoNumber), (book.most, ("mill", "room", True), NoNumber),
            (book.most, ("mill", "room", None), NoNumber), (book.shares, ("gold", 5), NoWare),
            (book.shares, (None, {}), NoWare), (book.shares, ("room", []), NoAmount),
            (book.shares, ("room", {"nobody": -1}), NoHouse), (book.shares, ("room", {"mill": -1, 5: 1}), NoHouse),
            (book.shares, ("room", {"mill": -1}), NoAmount), (book.shares, ("room", {"mill": GREAT + 1}), NoAmount),
        ):
            with self.subTest(things=things, refusal=refusal):
                with self.assertRaises(TreeError) as caught:
                    does(*things)
                self.assertIs(type(caught.exception), refusal)
                self.assertEqual(all_told(book), before)


if __name__ == "__main__":
    unittest.main()
