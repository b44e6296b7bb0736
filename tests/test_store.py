"""Points 33 to 39: the store of holds."""

import copy
import random
import unittest

from quotatree.errors import NoHold, NoHouse, NoPromise, TreeError
from quotatree.holds import Hold, Loan
from quotatree.store import Store
from quotatree.tree import Tree

VAST = 10 ** 5000
NO_HOUSES = (
    True, False, 0, 1, -1, VAST, "", "Top", "top ", "to", "topp", "nobody", "room", [], ["top"], (), ("top",), {},
    {"top": 1}, {"top"}, 1.5, b"top", len, object(),
)
# Holds 1, 2 and 3 are there, and 4, which is gone.
NO_HOLDS = (
    None, True, False, 0, -1, 4, 5, 6, VAST, "", "1", "top", [], [1], (), (1,), {}, {1: 1}, {1}, 1.0, 2.0, b"1", len,
    object(),
)


def houses():
    """top above mill (above loft) and inn; the limits are small, so that a store which looks at them is found out."""
    tree = Tree(["room", "coin"], "top", {"room": 5}, {"room": 40, "coin": 40})
    tree.found("mill", "top", {"room": 10, "coin": 4}, {"room": 15, "coin": 4})
    tree.found("loft", "mill", {"room": 2}, {"room": 5, "coin": 3})
    tree.found("inn", "top", {"room": 3, "coin": 3}, {"room": 5, "coin": 3})
    return tree


def some_holds():
    store = Store(houses())
    store.put("mill", {"room": 4}, 1, None, True)
    store.put("loft", {"coin": 9, "room": 7}, 2, 3, False)
    store.put("mill", {"coin": 2}, 0, 2, False)
    store.drop(store.put("top", {"room": 1}, 0, None, True))
    return store


def all_told(store):
    told = [store.tell(number) for number in store.numbers()]
    # A copy, so that a list or dict of the store's own among them would not change along with the store.
    return copy.deepcopy((told, store.numbers(), [hold.told() for hold in store.under()]))


def next_number(store):
    return store.twin().put("top", {"coin": 1}, 0, None, False)


class StoreCase(unittest.TestCase):
    def assert_refused(self, store, refusal, does, *things):
        before = (all_told(store), next_number(store))
        with self.assertRaises(refusal) as caught:
            does(*things)
        self.assertEqual((all_told(store), next_number(store)), before)
        return caught.exception

    def assert_no_promise(self, store, house, ware, does, *things):
        error = self.assert_refused(store, NoPromise, does, *things)
        self.assertEqual((error.house, error.ware), (house, ware))


class Wrong(StoreCase):
    def test_no_house(self):
        store = some_holds()
        for does, behind in (
            (store.put, ({"room": 1}, 0, None, True)), (store.put, ({"room": 1}, 0, None, False)),
            (store.put, ({"room": 999}, 0, None, True)), (store.own, ()), (store.promised, ()), (store.use, ()),
            (store.fits, ({"room": 1},)), (store.fits, ({"room": 999}, 1)), (store.fits, ({"room": 1}, 99)),
            (store.lift, ()), (store.under, ()),
        ):
            for thing in NO_HOUSES + ((None,) if does != store.under else ()):
                with self.subTest(does.__name__, kind=type(thing)):
                    self.assert_refused(store, NoHouse, does, thing, *behind)

    def test_no_hold(self):
        store = some_holds()
        for does, behind in (
            (store.tell, ()), (store.drop, ()), (store.change, ({"room": 1}, True)),
            (store.change, ({"room": 1}, False)), (store.change, ({"room": 999}, True)),
        ):
            for thing in NO_HOLDS:
                with self.subTest(does.__name__, kind=type(thing)):
                    self.assert_refused(store, NoHold, does, thing, *behind)

    def test_no_hold_in_an_empty_store(self):
        store = Store(houses())
        for thing in NO_HOLDS + (1, 2, 3):
            for does, behind in ((store.tell, ()), (store.drop, ()), (store.change, ({"room": 1}, True))):
                self.assert_refused(store, NoHold, does, thing, *behind)


class Putting(StoreCase):
    def test_an_empty_store(self):
        store = Store(houses())
        self.assertEqual((store.numbers(), store.under(), store.under("top"), store.turn()), ([], [], [], []))
        for house in ("top", "mill", "loft", "inn"):
            self.assertEqual((store.own(house), store.promised(house), store.use(house)), ({}, {}, {}))
            self.assertEqual(store.lift(house), [])

    def test_what_is_put_is_told(self):
        store = Store(houses())
        self.assertEqual(store.put("mill", {"room": 4, "coin": 1}, 3, None, True), 1)
        self.assertEqual(store.put("inn", {"room": 10 ** 30}, 9, 1000, False), 2)
        self.assertEqual(store.tell(1), (1, "mill", {"room": 4, "coin": 1}, 3, None, True))
        self.assertEqual(store.tell(2), (2, "inn", {"room": 10 ** 30}, 9, 1000, False))
        self.assertEqual(store.numbers(), [1, 2])

    def test_promised_holds_and_loans_are_of_their_classes(self):
        store = some_holds()
        self.assertEqual([type(hold) for hold in store.under()], [Hold, Loan, Loan])
        first = store.under()[0]
        fields = (first.number, first.house, first.amounts, first.rank, first.turns)
        self.assertEqual(fields, (1, "mill", {"room": 4}, 1, None))

    def test_numbers_go_on_where_holds_are_gone(self):
        store = Store(houses())
        self.assertEqual([store.put("top", {"coin": 1}, 0, None, False) for time in range(3)], [1, 2, 3])
        store.drop(3)
        store.drop(1)
        self.assertEqual(store.put("inn", {"coin": 1}, 0, 1, False), 4)
        self.assertEqual(store.numbers(), [2, 4])
        self.assertEqual(store.turn(), [4])
        self.assertEqual(store.put("inn", {"coin": 1}, 0, None, True), 5)
        for number in store.numbers():
            store.drop(number)
        self.assertEqual(store.put("inn", {"coin": 1}, 0, None, True), 6)
        self.assertEqual(store.numbers(), [6])

    def test_an_exact_match_and_one_piece_more(self):
        store = Store(houses())
        self.assert_no_promise(store, "mill", "room", store.put, "mill", {"room": 11}, 0, None, True)
        store.put("mill", {"room": 6}, 0, None, True)
        self.assert_no_promise(store, "mill", "room", store.put, "mill", {"room": 5}, 0, None, True)
        self.assertEqual(store.put("mill", {"room": 4, "coin": 4}, 0, None, True), 2)
        self.assert_no_promise(store, "mill", "room", store.put, "mill", {"room": 1}, 0, None, True)
        self.assert_no_promise(store, "mill", "coin", store.put, "mill", {"coin": 1}, 0, None, True)

    def test_the_first_ware(self):
        store = Store(houses())
        for amounts, ware in (
            ({"room": 11, "coin": 5}, "coin"), ({"coin": 5, "room": 11}, "coin"), ({"room": 11, "coin": 4}, "room"),
            ({"coin": 4, "room": 11}, "room"), ({"room": 1, "coin": 5}, "coin"),
        ):
            with self.subTest(amounts):
                self.assert_no_promise(store, "mill", ware, store.put, "mill", amounts, 0, None, True)
        self.assert_no_promise(store, "loft", "coin", store.put, "loft", {"coin": 1}, 0, None, True)
        self.assert_no_promise(store, "top", "coin", store.put, "top", {"coin": 1, "room": 9}, 0, None, True)

    def test_what_is_refused_uses_no_number(self):
        store = Store(houses())
        for time in range(3):
            with self.assertRaises(NoPromise):
                store.put("mill", {"room": 11}, 0, None, True)
            with self.assertRaises(NoHouse):
                store.put("nobody", {"room": 1}, 0, None, False)
        self.assertEqual(store.put("mill", {"room": 10}, 0, None, True), 1)

    def test_a_loan_is_always_taken(self):
        store = Store(houses())
        for number in range(1, 6):
            self.assertEqual(store.put("loft", {"room": 10 ** 30, "coin": 10 ** 30}, 0, None, False), number)
        self.assertEqual(store.use("top"), {"room": 5 * 10 ** 30, "coin": 5 * 10 ** 30})
        # What fits is a loan, too, when it is put as one.
        self.assertEqual(store.tell(store.put("inn", {"room": 1}, 0, None, False))[5], False)

    def test_loans_and_other_houses_take_nothing_of_the_promise(self):
        store = Store(houses())
        store.put("mill", {"room": 10}, 0, None, False)
        store.put("loft", {"room": 2}, 0, None, True)
        store.put("top", {"room": 5}, 0, None, True)
        self.assertEqual(store.put("mill", {"room": 10}, 0, None, True), 4)


class Telling(StoreCase):
    def test_own_promised_and_use(self):
        store = some_holds()
        store.put("inn", {"room": 3}, 0, None, True)
        store.put("mill", {"room": 1, "coin": 1}, 0, None, True)
        for house, own, promised, use in (
            ("loft", {"room": 7, "coin": 9}, {}, {"room": 7, "coin": 9}),
            ("mill", {"room": 5, "coin": 3}, {"room": 5, "coin": 1}, {"room": 12, "coin": 12}),
            ("inn", {"room": 3}, {"room": 3}, {"room": 3}), ("top", {}, {}, {"room": 15, "coin": 12}),
        ):
            with self.subTest(house):
                self.assertEqual(store.own(house), own)
                self.assertEqual(store.promised(house), promised)
                self.assertEqual(store.use(house), use)

    def test_under(self):
        store = some_holds()
        store.put("inn", {"room": 3}, 0, None, True)
        for house, numbers in (
            (None, [1, 2, 3, 5]), ("top", [1, 2, 3, 5]), ("mill", [1, 2, 3]), ("loft", [2]), ("inn", [5]),
        ):
            with self.subTest(house):
                self.assertEqual([hold.number for hold in store.under(house)], numbers)
        self.assertEqual([hold.number for hold in store.under()], [1, 2, 3, 5])
        self.assertEqual([hold.told() for hold in store.under("loft")], [store.tell(2)])

    def test_under_and_numbers_rise_behind_changes(self):
        store = Store(houses())
        for house in ("inn", "loft", "top", "mill", "inn"):
            store.put(house, {"coin": 1}, 0, 5, False)
        store.change(2, {"room": 1}, True)
        store.change(1, {"room": 1}, False)
        store.drop(3)
        store.turn()
        store.lift("inn")
        store.put("mill", {"room": 1}, 0, None, True)
        store.change(4, {"coin": 2}, False)
        self.assertEqual(store.numbers(), [1, 2, 4, 5, 6])
        self.assertEqual([hold.number for hold in store.under()], [1, 2, 4, 5, 6])
        self.assertEqual([hold.number for hold in store.under("mill")], [2, 4, 6])

    def test_sums_are_exact(self):
        store = Store(houses())
        for time in range(5):
            store.put("mill", {"room": 10 ** 30 - 1}, 0, None, False)
        self.assertEqual(store.own("mill"), {"room": 5 * 10 ** 30 - 5})

    def test_fits(self):
        store = Store(houses())
        store.put("mill", {"room": 6}, 0, None, True)
        store.put("mill", {"room": 9}, 0, None, False)
        for amounts, hoped in (
            ({"room": 4}, True), ({"room": 5}, False), ({"coin": 4}, True), ({"coin": 5}, False),
            ({"room": 4, "coin": 4}, True), ({"room": 4, "coin": 5}, False), ({"room": 5, "coin": 4}, False),
            ({"room": 1}, True), ({"room": 10 ** 30}, False),
        ):
            with self.subTest(amounts):
                self.assertIs(store.fits("mill", amounts), hoped)
                self.assertIs(store.fits("mill", amounts, None), hoped)
        self.assertIs(store.fits("loft", {"room": 2}), True)
        self.assertIs(store.fits("loft", {"coin": 1}), False)

    def test_fits_with_a_hold_left_out(self):
        store = Store(houses())
        store.put("mill", {"room": 6}, 0, None, True)
        store.put("mill", {"room": 3, "coin": 1}, 0, None, True)
        store.put("mill", {"room": 5}, 0, None, False)
        store.put("inn", {"room": 3}, 0, None, True)
        store.put("loft", {"room": 2}, 0, None, True)
        for but, most in ((1, 7), (2, 4), (None, 1), (3, 1), (4, 1), (5, 1), (6, 1), (0, 1), (-1, 1), (VAST, 1)):
            with self.subTest(most=most, none=but is None):
                self.assertIs(store.fits("mill", {"room": most}, but), True)
                self.assertIs(store.fits("mill", {"room": most + 1}, but), False)
        # A truth is no number, though Python takes True for 1.
        self.assertIs(store.fits("mill", {"room": 2}, True), False)
        self.assertIs(store.fits("mill", {"room": 4, "coin": 4}, 2), True)
        self.assertIs(store.fits("mill", {"room": 7, "coin": 4}, 1), False)

    def test_a_hold_that_is_gone_is_not_left_out_once_more(self):
        store = Store(houses())
        store.put("mill", {"room": 6}, 0, None, True)
        store.drop(1)
        self.assertIs(store.fits("mill", {"room": 10}, 1), True)
        self.assertIs(store.fits("mill", {"room": 11}, 1), False)

    def test_asking_changes_nothing(self):
        store = some_holds()
        before = (all_told(store), next_number(store))
        for house in ("top", "mill", "loft", "inn"):
            store.own(house), store.promised(house), store.use(house), store.under(house)
            store.fits(house, {"room": 1}), store.fits(house, {"room": 999}, 1)
        store.tell(1), store.numbers(), store.twin()
        self.assertEqual((all_told(store), next_number(store)), before)


class Changing(StoreCase):
    def test_drop(self):
        store = some_holds()
        self.assertEqual(store.drop(2), (2, "loft", {"coin": 9, "room": 7}, 2, 3, False))
        self.assertEqual(store.numbers(), [1, 3])
        self.assert_refused(store, NoHold, store.drop, 2)
        self.assertEqual(store.drop(1), (1, "mill", {"room": 4}, 1, None, True))
        self.assertEqual((store.promised("mill"), store.own("mill"), store.use("top")), ({}, {"coin": 2}, {"coin": 2}))

    def test_nothing_is_lifted_by_a_drop(self):
        store = Store(houses())
        store.put("mill", {"room": 10}, 0, None, True)
        store.put("mill", {"room": 1}, 0, None, False)
        store.drop(1)
        self.assertIs(store.tell(2)[5], False)

    def test_change_both_ways(self):
        store = some_holds()
        self.assertIsNone(store.change(1, {"coin": 50}, False))
        self.assertEqual(store.tell(1), (1, "mill", {"coin": 50}, 1, None, False))
        self.assertIsNone(store.change(1, {"room": 10, "coin": 4}, True))
        self.assertEqual(store.tell(1), (1, "mill", {"room": 10, "coin": 4}, 1, None, True))
        store.change(2, {"room": 2}, True)
        self.assertEqual(store.tell(2), (2, "loft", {"room": 2}, 2, 3, True))
        store.change(2, {"room": 1}, True)
        self.assertEqual(store.tell(2), (2, "loft", {"room": 1}, 2, 3, True))
        store.change(3, {"room": 10 ** 30}, False)
        self.assertEqual(store.tell(3), (3, "mill", {"room": 10 ** 30}, 0, 2, False))
        self.assertEqual([type(hold) for hold in store.under()], [Hold, Hold, Loan])
        self.assertEqual(store.numbers(), [1, 2, 3])

    def test_the_hold_itself_is_left_out(self):
        store = Store(houses())
        store.put("mill", {"room": 6}, 0, None, True)
        store.put("mill", {"room": 3}, 0, None, True)
        self.assert_no_promise(store, "mill", "room", store.change, 1, {"room": 8}, True)
        store.change(1, {"room": 7}, True)
        self.assertEqual(store.promised("mill"), {"room": 10})
        self.assert_no_promise(store, "mill", "room", store.change, 2, {"room": 4}, True)
        store.change(2, {"room": 3, "coin": 4}, True)

    def test_a_loan_changed_to_be_promised_must_fit(self):
        store = Store(houses())
        store.put("mill", {"room": 6}, 0, None, True)
        store.put("mill", {"room": 90, "coin": 90}, 5, 7, False)
        self.assert_no_promise(store, "mill", "room", store.change, 2, {"room": 5}, True)
        self.assert_no_promise(store, "mill", "coin", store.change, 2, {"room": 5, "coin": 5}, True)
        self.assert_no_promise(store, "mill", "room", store.change, 2, {"room": 5, "coin": 4}, True)
        self.assertEqual(store.tell(2), (2, "mill", {"room": 90, "coin": 90}, 5, 7, False))
        store.change(2, {"room": 4, "coin": 4}, True)
        self.assertEqual(store.tell(2), (2, "mill", {"room": 4, "coin": 4}, 5, 7, True))

    def test_objects_told_stay_as_they_were_made(self):
        store = Store(houses())
        store.put("mill", {"room": 6}, 0, 2, True)
        store.put("mill", {"room": 1}, 0, 2, False)
        objects = store.under()
        before = [hold.told() for hold in objects]
        store.change(1, {"coin": 1}, False)
        store.lift("mill")
        store.turn()
        self.assertEqual([hold.told() for hold in objects], before)
        self.assertEqual([store.tell(number)[4:] for number in (1, 2)], [(1, True), (1, True)])
        store.turn()
        self.assertEqual([hold.told() for hold in objects], before)


class Lifting(StoreCase):
    def test_in_the_order_of_their_numbers(self):
        store = Store(houses())
        for pieces in (6, 5, 3, 2, 1):
            store.put("mill", {"room": pieces}, 0, None, False)
        # 6 fits; 5 doesn't then; 3 does; 2 doesn't; 1 does, exactly.
        self.assertEqual(store.lift("mill"), [1, 3, 5])
        self.assertEqual([store.tell(number)[5] for number in store.numbers()], [True, False, True, False, True])
        self.assertEqual(store.promised("mill"), {"room": 10})
        self.assertEqual(store.lift("mill"), [])

    def test_all_else_stays(self):
        store = Store(houses())
        store.put("mill", {"room": 2, "coin": 1}, 7, 9, False)
        self.assertEqual(store.lift("mill"), [1])
        self.assertEqual(store.tell(1), (1, "mill", {"room": 2, "coin": 1}, 7, 9, True))
        self.assertEqual([type(hold) for hold in store.under()], [Hold])

    def test_what_is_promised_already_counts(self):
        store = Store(houses())
        store.put("mill", {"room": 4}, 0, None, False)
        store.put("mill", {"room": 7}, 0, None, True)
        store.put("mill", {"room": 3, "coin": 5}, 0, None, False)
        store.put("mill", {"room": 3, "coin": 4}, 0, None, False)
        self.assertEqual(store.lift("mill"), [4])
        self.assertEqual([store.tell(number)[5] for number in store.numbers()], [False, True, False, True])

    def test_other_houses_are_not_looked_at(self):
        store = Store(houses())
        for house in ("top", "mill", "loft", "inn"):
            store.put(house, {"room": 1}, 0, None, False)
        self.assertEqual(store.lift("mill"), [2])
        self.assertEqual([store.tell(number)[5] for number in store.numbers()], [False, True, False, False])
        self.assertEqual(store.lift("top"), [1])
        self.assertEqual([store.tell(number)[5] for number in store.numbers()], [True, True, False, False])

    def test_nothing_fits(self):
        store = Store(houses())
        store.put("loft", {"coin": 1}, 9, None, False)
        store.put("loft", {"room": 3}, 9, None, False)
        self.assertEqual(store.lift("loft"), [])
        self.assertEqual(store.promised("loft"), {})


class Turns(StoreCase):
    def test_turns_to_the_last(self):
        store = Store(houses())
        store.put("mill", {"room": 1}, 0, 2, True)
        store.put("mill", {"room": 1}, 0, None, False)
        store.put("inn", {"coin": 9}, 4, 1, False)
        store.put("loft", {"coin": 9}, 4, 3, False)
        store.put("top", {"room": 1}, 0, 1, True)
        store.put("top", {"room": 1}, 0, None, True)
        self.assertEqual(store.turn(), [3, 5])
        self.assertEqual([store.tell(number)[4] for number in store.numbers()], [1, None, 2, None])
        self.assertEqual(store.turn(), [1])
        self.assertEqual(store.tell(4), (4, "loft", {"coin": 9}, 4, 1, False))
        self.assertEqual(store.turn(), [4])
        self.assertEqual(store.turn(), [])
        self.assertEqual(store.numbers(), [2, 6])

    def test_a_thousand_turns(self):
        store = Store(houses())
        store.put("mill", {"room": 1}, 0, 1000, True)
        for time in range(999):
            self.assertEqual(store.turn(), [])
        self.assertEqual(store.tell(1), (1, "mill", {"room": 1}, 0, 1, True))
        self.assertEqual(store.turn(), [1])
        self.assertEqual((store.numbers(), store.use("top")), ([], {}))

    def test_promised_stays_promised_and_a_loan_a_loan(self):
        store = Store(houses())
        store.put("mill", {"room": 1}, 3, 2, True)
        store.put("mill", {"room": 1}, 4, 2, False)
        store.turn()
        self.assertEqual(store.tell(1), (1, "mill", {"room": 1}, 3, 1, True))
        self.assertEqual(store.tell(2), (2, "mill", {"room": 1}, 4, 1, False))
        self.assertEqual([type(hold) for hold in store.under()], [Hold, Loan])

    def test_nothing_is_lifted(self):
        store = Store(houses())
        store.put("mill", {"room": 10}, 0, 1, True)
        store.put("mill", {"room": 1}, 0, None, False)
        store.put("mill", {"room": 1}, 0, 5, False)
        self.assertEqual(store.turn(), [1])
        self.assertEqual([store.tell(number)[5] for number in store.numbers()], [False, False])


class Apart(StoreCase):
    def test_what_was_handed_in_stays_and_is_not_kept(self):
        store = Store(houses())
        first, second = {"room": 4}, {"room": 5, "coin": 1}
        store.put("mill", first, 0, None, True)
        store.put("mill", second, 0, None, False)
        changed = {"room": 6}
        store.change(1, changed, True)
        store.fits("mill", second)
        self.assertEqual((first, second, changed), ({"room": 4}, {"room": 5, "coin": 1}, {"room": 6}))
        for handed in (first, second, changed):
            handed["room"] = 99
            handed["coin"] = 99
        self.assertEqual(store.tell(1)[2], {"room": 6})
        self.assertEqual(store.tell(2)[2], {"room": 5, "coin": 1})

    def test_changing_what_was_told_changes_nothing(self):
        store = some_holds()
        before = (all_told(store), next_number(store))
        for told in (store.numbers(), store.under(), store.under("mill"), store.lift("inn")):
            told.clear()
        for house in ("top", "mill", "loft", "inn"):
            for told in (store.own(house), store.promised(house), store.use(house)):
                told["room"] = 99
        store.tell(1)[2].clear()
        self.assertEqual((all_told(store), next_number(store)), before)
        dropped = store.twin().drop(1)
        dropped[2].clear()
        self.assertEqual(store.tell(1)[2], {"room": 4})

    def test_one_hold_alone_is_told_as_a_dict_of_the_askers_own(self):
        store = Store(houses())
        store.put("mill", {"room": 4}, 0, None, True)
        for ask in (store.own, store.promised, store.use):
            ask("mill")["room"] = 99
            self.assertEqual(store.tell(1)[2], {"room": 4})

    def test_what_was_told_stays(self):
        store = some_holds()
        told = (all_told(store), store.own("mill"), store.use("top"), store.promised("mill"), store.under())
        numbers = [hold.number for hold in told[4]]
        again = (all_told(store), store.own("mill"), store.use("top"), store.promised("mill"))
        store.turn()
        store.change(1, {"room": 1}, False)
        store.drop(2)
        store.put("inn", {"room": 1}, 0, None, True)
        self.assertEqual(told[:4], again)
        self.assertEqual([hold.number for hold in told[4]], numbers)

    def test_two_stores_on_one_tree(self):
        tree = houses()
        one, other = Store(tree), Store(tree)
        one.put("mill", {"room": 10}, 0, None, True)
        self.assertEqual((other.numbers(), other.use("top")), ([], {}))
        self.assertEqual(other.put("mill", {"room": 10}, 0, None, True), 1)

    def test_a_tree_that_changes_behind_the_store(self):
        tree = houses()
        store = Store(tree)
        store.put("loft", {"room": 2}, 0, None, True)
        store.put("inn", {"coin": 1}, 0, None, False)
        self.assertEqual((store.use("mill"), store.use("inn")), ({"room": 2}, {"coin": 1}))
        tree.move("loft", "top")
        self.assertEqual((store.use("mill"), [hold.number for hold in store.under("mill")]), ({}, []))
        tree.move("inn", "loft")
        self.assertEqual(store.use("loft"), {"room": 2, "coin": 1})
        self.assertEqual([hold.number for hold in store.under("loft")], [1, 2])
        with self.assertRaises(NoHouse):
            store.put("new", {"room": 1}, 0, None, True)
        tree.found("new", "mill", {"room": 1}, {"room": 1})
        self.assertEqual(store.put("new", {"room": 1}, 0, None, True), 3)
        self.assert_no_promise(store, "new", "room", store.put, "new", {"room": 1}, 0, None, True)
        self.assertEqual(store.use("mill"), {"room": 1})
        self.assertEqual(store.twin().use("mill"), {"room": 1})

    def test_the_store_leaves_the_tree_as_it_is(self):
        tree = houses()
        before = [(name, tree.promise_of(name), tree.cap_of(name), tree.line(name)) for name in tree.names()]
        store = Store(tree)
        store.put("mill", {"room": 10}, 0, 1, True)
        store.put("mill", {"room": 3}, 0, None, False)
        store.turn()
        store.lift("mill")
        store.change(2, {"room": 1}, True)
        after = [(name, tree.promise_of(name), tree.cap_of(name), tree.line(name)) for name in tree.names()]
        self.assertEqual(after, before)


class Twins(StoreCase):
    def test_the_twin_is_alike(self):
        store = some_holds()
        twin = store.twin()
        self.assertIsInstance(twin, Store)
        self.assertIsNot(twin, store)
        self.assertEqual(all_told(twin), all_told(store))
        self.assertEqual(twin.put("inn", {"room": 1}, 0, None, True), 5)
        self.assertEqual(store.put("top", {"coin": 7}, 0, None, False), 5)

    def test_both_go_on_apart(self):
        for deeds in (
            lambda store: store.put("inn", {"room": 1}, 0, None, True), lambda store: store.drop(1),
            lambda store: store.change(1, {"coin": 3}, False), lambda store: store.lift("mill"),
            lambda store: store.turn(), lambda store: [store.turn(), store.turn(), store.turn()],
        ):
            store = some_holds()
            twin = store.twin()
            before = (all_told(store), store.use("top"), store.promised("mill"))
            deeds(twin)
            self.assertEqual((all_told(store), store.use("top"), store.promised("mill")), before)
            self.assertNotEqual(all_told(twin), before[0])
            twin = store.twin()
            deeds(store)
            self.assertEqual((all_told(twin), twin.use("top"), twin.promised("mill")), before)

    def test_the_twin_of_an_empty_store_and_of_a_twin(self):
        store = Store(houses())
        self.assertEqual(store.twin().put("inn", {"room": 1}, 0, None, True), 1)
        store.drop(store.put("inn", {"room": 1}, 0, None, True))
        twin = store.twin().twin()
        self.assertEqual((twin.numbers(), twin.put("inn", {"room": 1}, 0, None, True)), ([], 2))
        self.assertEqual(store.numbers(), [])

    def test_both_look_at_the_same_tree(self):
        tree = houses()
        store = Store(tree)
        store.put("loft", {"room": 2}, 0, None, True)
        twin = store.twin()
        tree.move("loft", "inn")
        self.assertEqual((store.use("inn"), twin.use("inn")), ({"room": 2}, {"room": 2}))
        self.assertEqual(twin.use("mill"), {})


class Model:
    """The store again, reckoned in the plainest way, on rows [number, house, amounts, rank, turns, sure]."""

    def __init__(self, tree):
        self.tree = tree
        self.rows = []
        self.coming = 1

    def total(self, rows):
        sums = {ware: sum(row[2].get(ware, 0) for row in rows) for ware in ("coin", "room")}
        return {ware: pieces for ware, pieces in sums.items() if pieces}

    def promised(self, house, but=None):
        return self.total([row for row in self.rows if row[1] == house and row[5] and row[0] != but])

    def over(self, house, amounts, but=None):
        promised, promise = self.promised(house, but), self.tree.promise_of(house)
        for ware in ("coin", "room"):
            if promised.get(ware, 0) + amounts.get(ware, 0) > promise.get(ware, 0):
                return (house, ware)
        return None

    def put(self, house, amounts, rank, turns, sure):
        if sure and self.over(house, amounts):
            return self.over(house, amounts)
        self.rows.append([self.coming, house, dict(amounts), rank, turns, sure])
        self.coming += 1
        return self.coming - 1

    def change(self, number, amounts, sure):
        for row in self.rows:
            if row[0] == number:
                if sure and self.over(row[1], amounts, number):
                    return self.over(row[1], amounts, number)
                row[2], row[5] = dict(amounts), sure
        return None

    def drop(self, number):
        gone = [row for row in self.rows if row[0] == number]
        self.rows = [row for row in self.rows if row[0] != number]
        return tuple(gone[0])

    def lift(self, house):
        lifted = []
        for row in self.rows:
            if row[1] == house and not row[5] and not self.over(house, row[2]):
                row[5] = True
                lifted.append(row[0])
        return lifted

    def turn(self):
        for row in self.rows:
            row[4] = row[4] and row[4] - 1
        ended = [row[0] for row in self.rows if row[4] == 0]
        self.rows = [row for row in self.rows if row[4] != 0]
        return ended


def outcome(does, *things):
    try:
        return does(*things)
    except NoPromise as error:
        return (error.house, error.ware)
    except TreeError as error:
        return type(error)


class Rows(StoreCase):
    def deed(self, numbers, store):
        word = numbers.choice(("put", "put", "put", "change", "drop", "lift", "turn"))
        amounts = {"room": numbers.randrange(5), "coin": numbers.randrange(3)}
        amounts = {ware: pieces for ware, pieces in amounts.items() if pieces} or {"room": 1}
        house = numbers.choice(("top", "mill", "loft", "inn"))
        sure = numbers.randrange(2) == 0
        if word == "put":
            return word, (house, amounts, numbers.randrange(10), numbers.randrange(6) or None, sure)
        if word in ("change", "drop") and store.numbers():
            number = numbers.choice(store.numbers())
            return word, ((number, amounts, sure) if word == "change" else (number,))
        return ("lift", (house,)) if word == "lift" else ("turn", ())

    def test_rows_of_deeds(self):
        for seed in range(15):
            # The same row of deeds each time: it hangs on the seed alone.
            numbers = random.Random(seed)
            tree = houses()
            store, model = Store(tree), Model(tree)
            for step in range(80):
                word, things = self.deed(numbers, store)
                told = outcome(getattr(store, word), *things)
                self.assertEqual(told, getattr(model, word)(*things))
                self.assertEqual([store.tell(number) for number in store.numbers()], [tuple(row) for row in model.rows])
                self.assertEqual([hold.told() for hold in store.under()], [tuple(row) for row in model.rows])
                if step % 20 == 19:
                    name, elder = numbers.choice((("loft", "top"), ("loft", "mill"), ("inn", "loft"), ("inn", "top")))
                    outcome(tree.move, name, elder)
                for house in tree.names():
                    beneath = tree.beneath(house)
                    self.assertEqual(store.own(house), model.total([row for row in model.rows if row[1] == house]))
                    self.assertEqual(store.promised(house), model.promised(house))
                    self.assertEqual(store.use(house), model.total([row for row in model.rows if row[1] in beneath]))
                    promise = tree.promise_of(house)
                    for ware, pieces in store.promised(house).items():
                        self.assertLessEqual(pieces, promise.get(ware, 0))


if __name__ == "__main__":
    unittest.main()
