"""Points 71 to 77: the hall, its deeds and their rows, and what it tells."""

import copy
import unittest

from quotatree.errors import (
    NoAmount, NoHold, NoHouse, NoMove, NoName, NoNumber, NoPromise, NoRoom, NoWare, Taken, TooDeep, TooMany, TreeError,
)
from quotatree.hall import Hall
from quotatree.tree import Tree

VAST = 10 ** 5000
GREAT = 10 ** 30
THINGS = (
    None, True, False, 0, 1, -1, VAST, -VAST, "", "Top", "top ", "topp", "nobody", "room", [], ["top"], (), ("top",),
    {}, {"top": 1}, {"top"}, 1.5, b"top", len, object(),
)
NO_HOUSES = THINGS
NO_HOLDS = tuple(thing for thing in THINGS if thing != 1 or thing is True) + (99, 1.0, 2.0, "1", [1], (1,), {1: 1})
NO_RANKS = tuple(thing for thing in THINGS if thing not in (0, 1) or isinstance(thing, bool)) + (10, 0.0, 5.0, "0", [0])
NO_TURNS = tuple(thing for thing in THINGS if thing is not None and thing != 1 or thing is True) + (
    1001, 1.0, 5.0, "1", [1])
# What is refused as amounts, each with its refusal (17, and {} of 73 and 74).
NO_AMOUNTS = (
    (None, NoAmount), (True, NoAmount), (0, NoAmount), (5, NoAmount), ("room", NoAmount), ([], NoAmount),
    ([("room", 1)], NoAmount), ((), NoAmount), ({"room"}, NoAmount), (object(), NoAmount),
    ({"gold": 1}, NoWare), ({"": 1}, NoWare), ({"Room": 1}, NoWare), ({1: 1}, NoWare), ({None: 1}, NoWare),
    ({True: 1}, NoWare), ({("room",): 1}, NoWare), ({"room": 1, "gold": 1}, NoWare), ({"top": 1}, NoWare),
    ({"room": -1, "gold": 0}, NoWare), ({"room": "1", 5: 1}, NoWare), ({"gold": 0}, NoWare), ({"gold": "x"}, NoWare),
    ({"room": -1}, NoAmount), ({"room": GREAT + 1}, NoAmount), ({"room": VAST}, NoAmount), ({"room": True}, NoAmount),
    ({"room": None}, NoAmount), ({"room": "1"}, NoAmount), ({"room": 1.0}, NoAmount), ({"room": [1]}, NoAmount),
    ({"room": {}}, NoAmount), ({"room": 1, "coin": -1}, NoAmount),
    ({}, NoAmount), ({"room": 0}, NoAmount), ({"room": 0, "coin": 0}, NoAmount),
)


def houses():
    """top above mill (above loft) and inn; loft's limit does not name coin."""
    hall = Hall(["room", "coin", "spare"], "top", {"room": 2}, {"room": 20, "coin": 12, "spare": 1000})
    hall.found("mill", "top", {"room": 4, "coin": 3}, {"room": 10, "coin": 6}, 2)
    hall.found("loft", "mill", {"room": 2}, {"room": 5})
    hall.found("inn", "top", {"room": 3, "coin": 2}, {"room": 12, "coin": 8}, 3)
    return hall


def next_number(hall):
    return copy.deepcopy(hall).ask("top", {"spare": 1})[1]


def all_told(hall):
    """All that is to be seen of a hall; the most shows the limits and the promises, the shares show the weights."""
    names, wares = hall.names(), ["coin", "room", "spare"]
    return copy.deepcopy((
        names, [(hall.line(name), hall.use(name), hall.own(name), hall.promised(name)) for name in names],
        hall.numbers(), [hall.tell(number) for number in hall.numbers()], next_number(hall),
        [hall.most(name, ware, rank) for name in names for ware in wares for rank in (0, 5, 9)],
        [hall.shares(ware, {name: GREAT for name in names}) for ware in wares],
    ))


def loans_that_fit(hall, promises):
    """The numbers of loans whose amounts, with what is promised at their house, are within its promise."""
    found = []
    for number in hall.numbers():
        number, house, amounts, rank, turns, sure = hall.tell(number)
        with_promised = {ware: amounts[ware] + hall.promised(house).get(ware, 0) for ware in amounts}
        if not sure and all(with_promised[ware] <= promises[house].get(ware, 0) for ware in amounts):
            found.append(number)
    return found


class HallCase(unittest.TestCase):
    def assert_refused(self, hall, refusal, does, *things):
        before = all_told(hall)
        with self.assertRaises(TreeError) as caught:
            does(*things)
        self.assertIs(type(caught.exception), refusal)
        self.assertEqual(all_told(hall), before)
        return caught.exception

    def assert_no_room(self, hall, fields, does, *things):
        error = self.assert_refused(hall, NoRoom, does, *things)
        self.assertEqual((error.house, error.ware, error.holders), fields)


class Making(unittest.TestCase):
    def test_an_empty_hall(self):
        hall = Hall(["room"], "top", {"room": 2}, {"room": 5})
        self.assertEqual((hall.names(), hall.numbers(), hall.line("top")), (["top"], [], ["top"]))
        self.assertEqual((hall.use("top"), hall.own("top"), hall.promised("top")), ({}, {}, {}))
        self.assertEqual((hall.most("top", "room"), hall.turn()), (5, ("turn", [], [])))

    def test_refused_as_a_tree_is(self):
        for things, refusal in (
            ((None, "top", {}, {}), NoWare), (([], "top", {}, {}), NoWare), ((["room", "room"], "top", {}, {}), NoWare),
            ((("room",), "top", {}, {}), NoWare), ((["Room"], "Top", 5, 5, 0), NoWare),
            ((list("abcdefg"), "top", {}, {}), NoWare),
            ((["room"], "Top", {}, {}), NoName), ((["room"], None, 5, 5, 0), NoName), ((["room"], "", {}, {}), NoName),
            ((["room"], "top", 5, {"gold": 1}), NoAmount), ((["room"], "top", {"gold": 1}, 5, 0), NoWare),
            ((["room"], "top", {"room": -1}, 5, 0), NoAmount), ((["room"], "top", {}, [], 0), NoAmount),
            ((["room"], "top", {}, {"gold": 1}, 0), NoWare), ((["room"], "top", {}, {"room": GREAT + 1}, 0), NoAmount),
            ((["room"], "top", {"room": 9}, {}, 0), NoNumber), ((["room"], "top", {}, {}, 1001), NoNumber),
            ((["room"], "top", {}, {}, True), NoNumber), ((["room"], "top", {}, {}, None), NoNumber),
            ((["room"], "top", {"room": 9}, {"room": 8}, 5), NoPromise),
            ((["room"], "top", {"room": 1}, {}), NoPromise),
        ):
            with self.subTest(things=things):
                for makes in (Tree, Hall):
                    with self.assertRaises(TreeError) as caught:
                        makes(*things)
                    self.assertIs(type(caught.exception), refusal)
                    if refusal is NoPromise:
                        self.assertEqual((caught.exception.house, caught.exception.ware), ("top", "room"))

    def test_what_is_handed_in_is_not_kept(self):
        wares, promise, cap = ["room", "coin"], {"room": 2, "coin": 0}, {"room": 5, "coin": 1}
        hall = Hall(wares, "top", promise, cap, 4)
        self.assertEqual((wares, promise, cap), (["room", "coin"], {"room": 2, "coin": 0}, {"room": 5, "coin": 1}))
        wares.clear(), promise.clear(), cap.clear()
        self.assertEqual(hall.ask("top", {"room": 2}), ("hold", 1, "top", {"room": 2}, 0, None, True, []))
        self.assertEqual((hall.most("top", "room"), hall.most("top", "coin")), (3, 1))

    def test_halls_are_apart(self):
        one, other = houses(), houses()
        one.ask("mill", {"room": 1})
        one.found("barn", "top", {}, {})
        self.assertEqual((other.numbers(), other.names()), ([], ["inn", "loft", "mill", "top"]))


class Founding(HallCase):
    def test_the_row(self):
        hall = houses()
        self.assertEqual(
            hall.found("barn", "inn", {"room": 1, "coin": 0}, {"coin": 2, "room": 3, "spare": 0}, 7),
            ("found", "barn", "inn", {"room": 1}, {"coin": 2, "room": 3}, 7))
        self.assertEqual(hall.found("shed", "barn", {}, {}), ("found", "shed", "barn", {}, {}, 1))
        self.assertEqual(hall.line("shed"), ["shed", "barn", "inn", "top"])
        self.assertEqual(hall.names(), ["barn", "inn", "loft", "mill", "shed", "top"])

    def test_the_rows_amounts_are_the_askers_own(self):
        hall = houses()
        promise, cap = {"room": 1}, {"room": 3}
        row = hall.found("barn", "inn", promise, cap)
        before = all_told(hall)
        row[3]["room"], row[4]["room"] = 99, 99
        self.assertEqual((promise, cap), ({"room": 1}, {"room": 3}))
        promise["room"], cap["room"] = 55, 55
        self.assertEqual(all_told(hall), before)
        self.assertEqual((row[3], row[4]), ({"room": 99}, {"room": 99}))

    def test_refused_as_a_tree_refuses(self):
        hall = houses()
        for things, refusal in (
            (("Barn", "nobody", 5, 5, 0), NoName), ((None, "top", {}, {}), NoName),
            (("mill", "nobody", 5, 5, 0), Taken), (("top", "top", {}, {}), Taken),
            (("barn", "nobody", 5, 5, 0), NoHouse), (("barn", "barn", {}, {}), NoHouse),
            (("barn", None, {}, {}), NoHouse), (("barn", "top", 5, {"gold": 1}, 0), NoAmount),
            (("barn", "top", {"gold": 1}, 5, 0), NoWare), (("barn", "top", {}, 5, 0), NoAmount),
            (("barn", "top", {}, {"gold": 1}, 0), NoWare), (("barn", "top", {"room": 99}, {}, 0), NoNumber),
            (("barn", "top", {}, {}, 1001), NoNumber), (("barn", "top", {}, {}, False), NoNumber),
        ):
            with self.subTest(things=things):
                self.assert_refused(hall, refusal, hall.found, *things)

    def test_promises_on_the_line(self):
        hall = houses()
        for things, fields in (
            (("barn", "mill", {"room": 5}, {"room": 4}), ("barn", "room")),
            (("barn", "mill", {"room": 5, "coin": 4}, {"room": 9, "coin": 9}), ("mill", "coin")),
            (("barn", "inn", {"room": 10}, {"room": 10}), ("inn", "room")),
            (("barn", "top", {"room": 10}, {"room": 99}), ("top", "room")),
        ):
            error = self.assert_refused(hall, NoPromise, hall.found, *things)
            self.assertEqual((error.house, error.ware), fields)
        self.assertEqual(hall.found("barn", "top", {"room": 9}, {"room": 99})[0], "found")

    def test_too_many_and_too_deep(self):
        hall = Hall(["room"], "a", {}, {"room": 1})
        letters = "abcdefghijklmnopqrstuvwxyz"
        for place in range(1, 12):
            hall.found(letters[place], letters[place - 1], {}, {})
        with self.assertRaises(TooDeep):
            hall.found("deep", "l", {}, {})
        for place in range(28):
            hall.found("x" + letters[place % 26] * (1 + place // 26), "a", {}, {})
        with self.assertRaises(TooMany):
            hall.found("more", "l", {"room": 2}, {})
        self.assertEqual(len(hall.names()), 40)


class Asking(HallCase):
    def test_the_row_of_a_promised_hold(self):
        hall = houses()
        self.assertEqual(
            hall.ask("mill", {"room": 4, "coin": 2}, 3, 5),
            ("hold", 1, "mill", {"room": 4, "coin": 2}, 3, 5, True, []))
        self.assertEqual(hall.tell(1), (1, "mill", {"room": 4, "coin": 2}, 3, 5, True))
        self.assertEqual((hall.own("mill"), hall.promised("mill")), ({"room": 4, "coin": 2}, {"room": 4, "coin": 2}))
        self.assertEqual((hall.use("top"), hall.use("loft")), ({"room": 4, "coin": 2}, {}))

    def test_the_row_of_a_loan(self):
        hall = houses()
        self.assertEqual(hall.ask("mill", {"room": 5}, 9, 1000), ("hold", 1, "mill", {"room": 5}, 9, 1000, False, []))
        self.assertEqual(hall.tell(1), (1, "mill", {"room": 5}, 9, 1000, False))
        self.assertEqual((hall.own("mill"), hall.promised("mill")), ({"room": 5}, {}))

    def test_rank_and_turns_left_out(self):
        hall = houses()
        self.assertEqual(hall.ask("mill", {"room": 1}), ("hold", 1, "mill", {"room": 1}, 0, None, True, []))
        self.assertEqual(hall.ask("mill", {"room": 1}, 4), ("hold", 2, "mill", {"room": 1}, 4, None, True, []))
        self.assertEqual(hall.ask("mill", {"room": 1}, turns=4), ("hold", 3, "mill", {"room": 1}, 0, 4, True, []))
        self.assertEqual(hall.ask("mill", {"room": 1}, 0, None), ("hold", 4, "mill", {"room": 1}, 0, None, True, []))

    def test_told_form(self):
        hall = houses()
        row = hall.ask("mill", {"coin": 0, "room": 1, "spare": 0})
        self.assertEqual((row[3], hall.tell(1)[2], hall.use("top")), ({"room": 1}, {"room": 1}, {"room": 1}))

    def test_sure_just_where_it_fits(self):
        for amounts, sure in (
            ({"room": 4}, True), ({"room": 5}, False), ({"room": 4, "coin": 3}, True), ({"room": 4, "coin": 4}, False),
            ({"room": 5, "coin": 1}, False), ({"coin": 3}, True), ({"coin": 4}, False),
        ):
            with self.subTest(amounts=amounts):
                row = houses().ask("mill", amounts)
                self.assertIs(row[6], sure)
        hall = houses()
        self.assertIs(hall.ask("top", {"room": 2, "spare": 1})[6], False)
        # Loans are not counted against the promise; promised holds are, and those of houses beneath are not.
        self.assertIs(hall.ask("mill", {"room": 5})[6], False)
        self.assertIs(hall.ask("loft", {"room": 2})[6], True)
        self.assertIs(hall.ask("mill", {"room": 3})[6], True)
        self.assertIs(hall.ask("mill", {"room": 2}, 9)[6], False)
        self.assertIs(hall.ask("mill", {"room": 1})[6], True)

    def test_the_rows_lists_and_dicts_are_the_askers_own(self):
        hall = houses()
        hall.ask("mill", {"room": 8})
        amounts = {"room": 2}
        row = hall.ask("loft", amounts, 3)
        hall.ask("inn", {"room": 3})
        row = hall.ask("mill", {"room": 4}, 3)
        before = all_told(hall)
        self.assertEqual(amounts, {"room": 2})
        amounts["room"] = 99
        row[3]["room"] = 99
        for thing in (hall.use("top"), hall.own("mill"), hall.promised("mill"), hall.tell(3)[2]):
            thing["room"] = 99
        for thing in (hall.numbers(), hall.names(), hall.line("loft"), hall.shares("room", {"mill": 1}), row[7]):
            thing.clear()
        self.assertEqual(all_told(hall), before)

    def test_rows_stay_as_they_were_told(self):
        hall = houses()
        rows = [hall.ask("mill", {"room": 8}), hall.ask("loft", {"room": 2}), hall.ask("mill", {"room": 4})]
        told = copy.deepcopy(rows)
        rows_too = [hall.grow(3, {"coin": 1}), hall.back(2), hall.turn()]
        told_too = copy.deepcopy(rows_too)
        hall.ask("top", {"room": 3}), hall.grow(3, {"room": 1}), hall.turn(), hall.back(3)
        self.assertEqual((rows, rows_too), (told, told_too))

    def test_claims_are_ended_and_told(self):
        hall = houses()
        hall.ask("mill", {"room": 5}, 2)
        hall.ask("loft", {"room": 3}, 1)
        hall.ask("inn", {"room": 6}, 0)
        # mill has 10, of which 8 are lent; the promise of mill is had all the same, and the last comer goes.
        self.assertEqual(
            hall.ask("mill", {"room": 4}),
            ("hold", 4, "mill", {"room": 4}, 0, None, True, [(2, "loft", {"room": 3}, "mill", "room")]))
        self.assertEqual(hall.numbers(), [1, 3, 4])
        self.assertEqual(hall.use("mill"), {"room": 9})
        # A loan's ask ends loans of lower rank alone.
        self.assertEqual(
            hall.ask("mill", {"room": 3}, 3),
            ("hold", 5, "mill", {"room": 3}, 3, None, False, [(1, "mill", {"room": 5}, "mill", "room")]))
        self.assertEqual(hall.numbers(), [3, 4, 5])

    def test_no_room_with_its_three_fields(self):
        hall = houses()
        hall.ask("mill", {"room": 5}, 2)
        hall.ask("loft", {"room": 2}, 1)
        hall.ask("mill", {"room": 4}, 0)
        hall.ask("inn", {"room": 4}, 6)
        kinds = [(number, hall.tell(number)[5]) for number in hall.numbers()]
        self.assertEqual(kinds, [(2, True), (3, True), (4, False)])
        self.assert_no_room(hall, ("mill", "room", [(2, 2), (3, 4)]), hall.ask, "mill", {"room": 5}, 9)
        self.assert_no_room(hall, ("loft", "room", [(2, 2)]), hall.ask, "loft", {"room": 4}, 9)
        self.assert_no_room(hall, ("loft", "coin", []), hall.ask, "loft", {"coin": 1}, 9)
        self.assert_no_room(hall, ("top", "room", [(2, 2), (3, 4), (4, 4)]), hall.ask, "top", {"room": 11}, 6)
        self.assert_no_room(hall, ("top", "room", [(2, 2), (3, 4)]), hall.ask, "top", {"room": 15}, 7)
        self.assert_no_room(hall, ("top", "coin", []), hall.ask, "top", {"room": 99, "coin": 13}, 0)
        self.assertEqual(hall.ask("top", {"room": 10}, 6)[1], 5)

    def test_the_first_place_that_lacks_room(self):
        hall = houses()
        self.assert_no_room(hall, ("inn", "room", []), hall.ask, "inn", {"coin": 8, "room": 21})
        self.assert_no_room(hall, ("inn", "coin", []), hall.ask, "inn", {"room": 21, "coin": 9})
        hall.ask("mill", {"room": 10})
        self.assert_no_room(hall, ("top", "room", [(1, 10)]), hall.ask, "inn", {"room": 12})

    def test_greatest_amounts(self):
        hall = Hall(["coin"], "top", {"coin": GREAT - 1}, {"coin": GREAT})
        self.assertEqual(hall.ask("top", {"coin": GREAT}), ("hold", 1, "top", {"coin": GREAT}, 0, None, False, []))
        self.assertEqual(hall.ask("top", {"coin": GREAT - 1})[6:], (True, [(1, "top", {"coin": GREAT}, "top", "coin")]))
        with self.assertRaises(NoRoom):
            hall.ask("top", {"coin": 2}, 9)

    def test_a_sure_ask_is_never_refused_with_no_room(self):
        hall = houses()
        for house, promise in (
            ("loft", {"room": 2}), ("inn", {"room": 3, "coin": 2}), ("mill", {"room": 4, "coin": 3}),
            ("top", {"room": 2}),
        ):
            # All the room that is left is lent, at the highest rank.
            use = hall.use("top")
            rest = {"room": 20 - use.get("room", 0), "coin": 12 - use.get("coin", 0), "spare": 1}
            self.assertIs(hall.ask("top", rest, 9)[6], False)
            last = hall.numbers()[-1]
            self.assertEqual(hall.ask(house, promise)[6:], (True, [(last, "top", rest, "top", sorted(promise)[0])]))
        self.assertEqual(hall.use("top"), {"room": 11, "coin": 5})

    def test_no_house(self):
        hall = houses()
        for thing in NO_HOUSES:
            for behind in (({"room": 1},), (None, None, 0), ({"gold": 1}, -1, -1), ({"room": 99}, 5)):
                self.assert_refused(hall, NoHouse, hall.ask, thing, *behind)

    def test_no_amounts(self):
        hall = houses()
        hall.ask("loft", {"room": 5})
        for place, (handed, refusal) in enumerate(NO_AMOUNTS):
            for house in ("mill", "loft"):
                for behind in ((), (None, 0), (10,), (0, True)):
                    with self.subTest(place=place, behind=behind):
                        self.assert_refused(hall, refusal, hall.ask, house, handed, *behind)

    def test_no_rank(self):
        hall = houses()
        for thing in NO_RANKS:
            for amounts, behind in (({"room": 1}, ()), ({"room": 99}, ()), ({"room": 1}, (0,)), ({"coin": 99}, ("x",))):
                with self.subTest(kind=type(thing)):
                    self.assert_refused(hall, NoNumber, hall.ask, "mill", amounts, thing, *behind)

    def test_no_turns(self):
        hall = houses()
        for thing in NO_TURNS:
            for amounts in ({"room": 1}, {"room": 99}):
                with self.subTest(kind=type(thing)):
                    self.assert_refused(hall, NoNumber, hall.ask, "mill", amounts, 0, thing)

    def test_the_edges_of_numbers(self):
        for rank in range(10):
            self.assertEqual(houses().ask("mill", {"room": 1}, rank)[4], rank)
        for turns in (1, 2, 999, 1000, None):
            self.assertEqual(houses().ask("mill", {"room": 1}, 0, turns)[5], turns)

    def test_what_is_refused_uses_no_number_and_ends_no_hold(self):
        hall = houses()
        hall.ask("mill", {"room": 5}, 2)
        self.assert_no_room(hall, ("mill", "room", [(1, 5)]), hall.ask, "mill", {"room": 6}, 2)
        self.assert_no_room(hall, ("mill", "room", []), hall.ask, "mill", {"room": 11}, 9)
        self.assertEqual(hall.numbers(), [1])
        self.assertEqual(hall.ask("mill", {"room": 1})[1], 2)


class Growing(HallCase):
    def test_within_the_promise(self):
        hall = houses()
        hall.ask("mill", {"room": 2}, 3, 4)
        self.assertEqual(hall.grow(1, {"room": 1, "coin": 2}), ("grow", 1, {"room": 1, "coin": 2}, True, [], []))
        self.assertEqual(hall.tell(1), (1, "mill", {"room": 3, "coin": 2}, 3, 4, True))
        # The hold itself is left out: just the promise.
        self.assertEqual(hall.grow(1, {"room": 1, "coin": 1}), ("grow", 1, {"room": 1, "coin": 1}, True, [], []))
        self.assertEqual(hall.promised("mill"), {"room": 4, "coin": 3})

    def test_told_form(self):
        hall = houses()
        hall.ask("mill", {"room": 2})
        self.assertEqual(hall.grow(1, {"room": 1, "coin": 0}), ("grow", 1, {"room": 1}, True, [], []))
        self.assertEqual(hall.tell(1)[2], {"room": 3})

    def test_out_of_the_promise_it_becomes_a_loan(self):
        hall = houses()
        hall.ask("mill", {"room": 4}, 3, 4)
        self.assertEqual(hall.grow(1, {"room": 1}), ("grow", 1, {"room": 1}, False, [], []))
        self.assertEqual(hall.tell(1), (1, "mill", {"room": 5}, 3, 4, False))
        self.assertEqual((hall.promised("mill"), hall.own("mill")), ({}, {"room": 5}))

    def test_a_loan_that_grows_stays_one(self):
        hall = houses()
        hall.ask("mill", {"room": 5}, 3, 4)
        self.assertEqual(hall.grow(1, {"room": 5}), ("grow", 1, {"room": 5}, False, [], []))
        self.assertEqual(hall.tell(1), (1, "mill", {"room": 10}, 3, 4, False))

    def test_a_loan_that_grows_and_then_fits(self):
        hall = houses()
        hall.ask("mill", {"room": 4})
        hall.ask("mill", {"room": 1}, 3, 7)
        # A loan that doesn't fit fits the less when it has grown; when there is place again, it is lifted as a whole.
        self.assertEqual(hall.grow(2, {"room": 2, "coin": 3}), ("grow", 2, {"room": 2, "coin": 3}, False, [], []))
        self.assertEqual(hall.back(1), ("back", 1, [2]))
        self.assertEqual(hall.tell(2), (2, "mill", {"room": 3, "coin": 3}, 3, 7, True))
        self.assertEqual(hall.grow(2, {"room": 1}), ("grow", 2, {"room": 1}, True, [], []))
        self.assertEqual(hall.grow(2, {"coin": 1}), ("grow", 2, {"coin": 1}, False, [], []))

    def test_lifting_behind_a_growth(self):
        hall = houses()
        hall.ask("mill", {"room": 3}, 5)
        hall.ask("mill", {"room": 2})
        hall.ask("mill", {"room": 2}, 1)
        hall.ask("loft", {"room": 1})
        self.assertEqual([hall.tell(number)[5] for number in hall.numbers()], [True, False, False, True])
        # The promised 3 become a loan of 5, so both loans fit.
        self.assertEqual(hall.grow(1, {"room": 2}), ("grow", 1, {"room": 2}, False, [], [2, 3]))
        self.assertEqual([hall.tell(number)[5] for number in hall.numbers()], [False, True, True, True])

    def test_loans_of_other_houses_are_not_lifted(self):
        hall = houses()
        hall.ask("mill", {"room": 3})
        hall.ask("mill", {"room": 2})
        hall.ask("inn", {"room": 4})
        self.assertEqual(hall.grow(1, {"coin": 4}), ("grow", 1, {"coin": 4}, False, [], [2]))
        self.assertEqual([hall.tell(number)[5] for number in hall.numbers()], [False, True, False])

    def test_the_claims_go_ahead_of_the_lifting(self):
        hall = houses()
        hall.ask("mill", {"room": 3}, 5)
        hall.ask("mill", {"room": 2})
        hall.ask("mill", {"room": 2}, 1)
        hall.ask("mill", {"room": 2}, 9)
        self.assertEqual(
            hall.grow(1, {"room": 2}),
            ("grow", 1, {"room": 2}, False, [(3, "mill", {"room": 2}, "mill", "room")], [2, 4]))
        self.assertEqual(hall.numbers(), [1, 2, 4])
        self.assertEqual(hall.promised("mill"), {"room": 4})

    def test_claims_for_a_sure_growth(self):
        hall = houses()
        hall.ask("mill", {"room": 2})
        hall.ask("loft", {"room": 5}, 9)
        hall.ask("mill", {"room": 3}, 9)
        self.assertEqual(
            hall.grow(1, {"room": 2}),
            ("grow", 1, {"room": 2}, True, [(3, "mill", {"room": 3}, "mill", "room")], []))
        self.assertEqual(hall.use("mill"), {"room": 9})

    def test_its_own_rank_counts_and_it_is_not_ended_itself(self):
        hall = houses()
        hall.ask("mill", {"room": 6}, 4)
        hall.ask("loft", {"room": 4}, 4)
        self.assert_no_room(hall, ("mill", "room", [(2, 4)]), hall.grow, 1, {"room": 1})
        hall.back(2)
        hall.ask("loft", {"room": 4}, 3)
        self.assertEqual(
            hall.grow(1, {"room": 1}),
            ("grow", 1, {"room": 1}, False, [(3, "loft", {"room": 4}, "mill", "room")], []))
        self.assertEqual(hall.numbers(), [1])

    def test_no_room_with_its_three_fields(self):
        hall = houses()
        hall.ask("mill", {"room": 4})
        hall.ask("loft", {"room": 2})
        hall.ask("inn", {"room": 7}, 5)
        # The hold itself is not among the holders; what it has already is looked at once.
        self.assert_no_room(hall, ("mill", "room", [(2, 2)]), hall.grow, 1, {"room": 5})
        self.assert_no_room(hall, ("loft", "coin", []), hall.grow, 2, {"coin": 1})
        self.assert_no_room(hall, ("inn", "room", []), hall.grow, 3, {"room": GREAT})
        self.assertEqual(hall.grow(1, {"room": 4}), ("grow", 1, {"room": 4}, False, [], []))

    def test_wares_that_the_hold_has_already_are_looked_at_too(self):
        # A reason is looked for in all wares of the hold, by alphabet, not in those handed in alone.
        hall = houses()
        hall.ask("inn", {"coin": 8})
        self.assert_no_room(hall, ("inn", "room", []), hall.grow, 1, {"room": 13})
        self.assertEqual(hall.grow(1, {"room": 12}), ("grow", 1, {"room": 12}, False, [], []))

    def test_no_hold(self):
        hall = houses()
        hall.ask("mill", {"room": 1})
        hall.back(hall.ask("mill", {"room": 1})[1])
        for thing in NO_HOLDS + (2,):
            for handed in ({"room": 1}, {}, None, {"gold": 1}, {"room": -1}, {"room": 999}):
                with self.subTest(kind=type(thing)):
                    self.assert_refused(hall, NoHold, hall.grow, thing, handed)

    def test_no_amounts(self):
        hall = houses()
        hall.ask("loft", {"room": 5})
        for place, (handed, refusal) in enumerate(NO_AMOUNTS):
            with self.subTest(place=place):
                self.assert_refused(hall, refusal, hall.grow, 1, handed)

    def test_the_rows_lists_and_dicts_are_the_askers_own(self):
        hall = houses()
        hall.ask("mill", {"room": 3}, 5)
        hall.ask("mill", {"room": 2})
        hall.ask("mill", {"room": 4})
        handed = {"room": 2}
        row = hall.grow(1, handed)
        self.assertEqual(row, ("grow", 1, {"room": 2}, False, [(3, "mill", {"room": 4}, "mill", "room")], [2]))
        before = all_told(hall)
        self.assertEqual(handed, {"room": 2})
        handed["room"], row[2]["room"], row[4][0][2]["room"] = 99, 99, 99
        row[4].clear(), row[5].clear()
        self.assertEqual(all_told(hall), before)


class Backs(HallCase):
    def test_the_row(self):
        hall = houses()
        hall.ask("mill", {"room": 2})
        self.assertEqual(hall.back(1), ("back", 1, []))
        self.assertEqual((hall.numbers(), hall.use("top")), ([], {}))
        self.assertEqual(hall.ask("mill", {"room": 2})[1], 2)

    def test_lifting_behind_it(self):
        hall = houses()
        for rooms in (4, 1, 4, 1):
            hall.ask("mill", {"room": rooms}, 9)
        self.assertEqual([hall.tell(number)[5] for number in hall.numbers()], [True, False, False, False])
        # By their numbers: 1 of 4 fits, 4 more do not, then 1 more does.
        self.assertEqual(hall.back(1), ("back", 1, [2, 4]))
        self.assertEqual([hall.tell(number)[5] for number in hall.numbers()], [True, False, True])
        self.assertEqual(hall.promised("mill"), {"room": 2})

    def test_loans_of_other_houses_are_not_lifted(self):
        hall = houses()
        hall.ask("mill", {"room": 4})
        hall.ask("loft", {"room": 3})
        self.assertEqual(hall.back(1), ("back", 1, []))
        self.assertEqual(hall.tell(2)[5], False)

    def test_a_loan_put_back(self):
        hall = houses()
        hall.ask("mill", {"room": 4})
        hall.ask("mill", {"room": 1})
        hall.ask("mill", {"room": 2})
        self.assertEqual(hall.back(2), ("back", 2, []))
        self.assertEqual(hall.tell(3)[5], False)

    def test_no_hold(self):
        hall = houses()
        hall.ask("mill", {"room": 1})
        hall.back(hall.ask("mill", {"room": 1})[1])
        for thing in NO_HOLDS + (2,):
            with self.subTest(kind=type(thing)):
                self.assert_refused(hall, NoHold, hall.back, thing)
                self.assert_refused(hall, NoHold, hall.tell, thing)


class Turns(HallCase):
    def test_counts_and_ends(self):
        hall = houses()
        hall.ask("mill", {"room": 1}, 0, 1)
        hall.ask("inn", {"room": 1}, 0, 2)
        hall.ask("top", {"spare": 1}, 0, 1)
        hall.ask("top", {"spare": 1})
        self.assertEqual(hall.turn(), ("turn", [1, 3], []))
        self.assertEqual([hall.tell(number)[4] for number in hall.numbers()], [1, None])
        self.assertEqual(hall.turn(), ("turn", [2], []))
        self.assertEqual(hall.turn(), ("turn", [], []))
        self.assertEqual(hall.numbers(), [4])

    def test_lifting_in_every_house(self):
        hall = houses()
        for house, promise in (("top", 2), ("mill", 4), ("inn", 3), ("loft", 2)):
            hall.ask(house, {"room": promise}, 9, 1)
        for house in ("top", "mill", "inn", "loft"):
            self.assertIs(hall.ask(house, {"room": 1}, 9)[6], False)
        for house in ("inn", "top"):
            self.assertIs(hall.ask(house, {"room": 1}, 9)[6], False)
        # By the order of the houses' names the numbers would not be rising.
        self.assertEqual(hall.turn(), ("turn", [1, 2, 3, 4], [5, 6, 7, 8, 9, 10]))
        self.assertTrue(all(hall.tell(number)[5] for number in hall.numbers()))

    def test_those_that_end_are_not_lifted_and_make_place(self):
        hall = houses()
        hall.ask("mill", {"room": 4}, 0, 2)
        hall.ask("mill", {"room": 2}, 0, 2)
        hall.ask("mill", {"room": 3}, 0, 5)
        self.assertEqual(hall.turn(), ("turn", [], []))
        self.assertEqual(hall.turn(), ("turn", [1, 2], [3]))
        self.assertEqual(hall.tell(3), (3, "mill", {"room": 3}, 0, 3, True))

    def test_the_lists_are_the_askers_own(self):
        hall = houses()
        hall.ask("mill", {"room": 4}, 0, 1)
        hall.ask("mill", {"room": 2})
        row = hall.turn()
        before = all_told(hall)
        row[1].clear(), row[2].clear()
        self.assertEqual(all_told(hall), before)


class Moves(HallCase):
    def test_a_move_changes_no_hold(self):
        hall = houses()
        hall.ask("loft", {"room": 2}, 3, 4)
        hall.ask("loft", {"room": 1}, 5)
        hall.ask("inn", {"room": 4}, 0)
        holds = [hall.tell(number) for number in hall.numbers()]
        self.assertEqual(hall.move("loft", "inn"), ("move", "loft", "inn"))
        self.assertEqual([hall.tell(number) for number in hall.numbers()], holds)
        self.assertEqual(hall.line("loft"), ["loft", "inn", "top"])
        self.assertEqual((hall.use("mill"), hall.use("inn"), hall.use("top")), ({}, {"room": 7}, {"room": 7}))
        self.assertEqual((hall.own("inn"), hall.own("loft")), ({"room": 4}, {"room": 3}))

    def test_no_room_with_its_three_fields(self):
        hall = houses()
        hall.ask("loft", {"room": 5}, 0)
        hall.ask("inn", {"room": 3}, 9)
        hall.ask("inn", {"room": 4}, 0)
        self.assertEqual(hall.ask("inn", {"room": 1}, 0)[1], 4)
        # 8 of 12 are taken at inn, also by loans of low rank: nobody's hold is ended by a move.
        self.assert_no_room(hall, ("inn", "room", [(2, 3), (3, 4), (4, 1)]), hall.move, "loft", "inn")
        hall.back(4)
        self.assertEqual(hall.move("loft", "inn"), ("move", "loft", "inn"))
        self.assertEqual(hall.use("inn"), {"room": 12})

    def test_new_elders_alone(self):
        # top is full, but has the moved holds beneath it already.
        hall = houses()
        hall.ask("loft", {"room": 5})
        hall.ask("top", {"room": 15})
        self.assertEqual(hall.move("loft", "top"), ("move", "loft", "top"))
        self.assertEqual(hall.move("loft", "inn"), ("move", "loft", "inn"))
        self.assertEqual(hall.use("top"), {"room": 20})

    def test_the_first_new_elder_and_the_first_ware(self):
        hall = houses()
        hall.found("shed", "inn", {}, {"room": 3, "coin": 9})
        hall.found("barn", "top", {}, {"room": 9, "coin": 9})
        hall.ask("barn", {"room": 4, "coin": 5})
        hall.ask("inn", {"room": 9, "coin": 4})
        self.assert_no_room(hall, ("shed", "room", []), hall.move, "barn", "shed")
        self.assert_no_room(hall, ("inn", "coin", [(2, 4)]), hall.move, "barn", "inn")

    def test_no_house(self):
        hall = houses()
        for thing in NO_HOUSES:
            with self.subTest(kind=type(thing)):
                self.assert_refused(hall, NoHouse, hall.move, thing, "inn")
                self.assert_refused(hall, NoHouse, hall.move, "loft", thing)
                self.assert_refused(hall, NoHouse, hall.move, "top", thing)
                self.assert_refused(hall, NoHouse, hall.move, thing, thing)

    def test_no_move(self):
        hall = houses()
        hall.ask("mill", {"room": 10})
        for house, elder in (("top", "mill"), ("top", "top"), ("mill", "mill"), ("mill", "loft"), ("mill", "top")):
            self.assert_refused(hall, NoMove, hall.move, house, elder)

    def test_no_room_behind_no_promise(self):
        hall = houses()
        hall.found("barn", "top", {"room": 4}, {"room": 4})
        hall.ask("mill", {"room": 5})
        error = self.assert_refused(hall, NoPromise, hall.move, "mill", "barn")
        self.assertEqual((error.house, error.ware), ("barn", "coin"))
        hall.found("shed", "inn", {}, {"room": 4})
        hall.ask("barn", {"room": 4})
        hall.ask("shed", {"room": 1})
        error = self.assert_refused(hall, NoPromise, hall.move, "mill", "shed")
        self.assertEqual((error.house, error.ware), ("shed", "coin"))
        self.assert_no_room(hall, ("shed", "room", [(3, 1)]), hall.move, "barn", "shed")

    def test_no_room_behind_too_deep(self):
        hall = Hall(["room"], "a", {"room": 1}, {"room": 9})
        letters = "abcdefghijkl"
        for place in range(1, 12):
            hall.found(letters[place], letters[place - 1], {}, {})
        hall.found("x", "a", {}, {"room": 9})
        hall.found("y", "x", {}, {"room": 9})
        hall.ask("y", {"room": 2})
        for elder, refusal in (("l", TooDeep), ("k", TooDeep), ("j", NoRoom)):
            with self.assertRaises(TreeError) as caught:
                hall.move("x", elder)
            self.assertIs(type(caught.exception), refusal)
        self.assertEqual((caught.exception.house, caught.exception.ware, caught.exception.holders), ("j", "room", []))
        self.assertEqual((hall.line("y"), hall.use("x")), (["y", "x", "a"], {"room": 2}))

    def test_what_is_promised_to_a_moved_house_is_had_at_its_new_place(self):
        hall = houses()
        hall.ask("inn", {"room": 3})
        hall.ask("inn", {"room": 9}, 9)
        hall.move("loft", "inn")
        self.assertEqual(hall.ask("loft", {"room": 2})[6:], (True, [(2, "inn", {"room": 9}, "inn", "room")]))


class Telling(HallCase):
    def test_houses(self):
        hall = houses()
        hall.ask("mill", {"room": 3})
        hall.ask("mill", {"room": 2, "coin": 1})
        hall.ask("loft", {"room": 1})
        hall.ask("inn", {"coin": 3})
        for house, use, own, promised in (
            ("top", {"room": 6, "coin": 4}, {}, {}),
            ("mill", {"room": 6, "coin": 1}, {"room": 5, "coin": 1}, {"room": 3}),
            ("loft", {"room": 1}, {"room": 1}, {"room": 1}), ("inn", {"coin": 3}, {"coin": 3}, {}),
        ):
            with self.subTest(house):
                self.assertEqual((hall.use(house), hall.own(house), hall.promised(house)), (use, own, promised))
        self.assertEqual((hall.numbers(), hall.names()), ([1, 2, 3, 4], ["inn", "loft", "mill", "top"]))
        self.assertEqual((hall.line("loft"), hall.line("top")), (["loft", "mill", "top"], ["top"]))
        self.assertEqual(hall.tell(2), (2, "mill", {"room": 2, "coin": 1}, 0, None, False))

    def test_no_house(self):
        hall = houses()
        for thing in NO_HOUSES:
            for does in (hall.use, hall.own, hall.promised, hall.line):
                with self.subTest(does.__name__, kind=type(thing)):
                    self.assert_refused(hall, NoHouse, does, thing)

    def test_no_loan_fits_its_house(self):
        promises = {
            "top": {"room": 2}, "mill": {"room": 4, "coin": 3}, "loft": {"room": 2}, "inn": {"room": 3, "coin": 2},
        }
        hall = houses()
        for does in (
            lambda: hall.ask("mill", {"room": 4}, 0, 2), lambda: hall.ask("mill", {"room": 2}, 1, 3),
            lambda: hall.ask("mill", {"room": 1, "coin": 3}), lambda: hall.ask("inn", {"room": 3}, 0, 1),
            lambda: hall.ask("inn", {"room": 2}), lambda: hall.turn(), lambda: hall.grow(3, {"coin": 1}),
            lambda: hall.turn(), lambda: hall.back(2), lambda: hall.move("loft", "inn"), lambda: hall.turn(),
        ):
            does()
            self.assertEqual(loans_that_fit(hall, promises), [])


if __name__ == "__main__":
    unittest.main()
