"""Points 17 and 18: amounts that are handed in, and how they are reckoned with."""

import itertools
import unittest

from quotatree.amounts import added, amount_of, amounts_of, beyond, total_of, within, without
from quotatree.errors import NoAmount, NoWare

WARES = ["room", "coin", "hand"]
# Of every one of these a dict can be asked for, and none is a ware.
NO_WARES = (
    "corn", "a", "roo", "rooms", "", "Room", "room ", " room", "room\n", "oom", "room coin", "1", 0, 1, -1,
    10 ** 5000, None, True, False, (), ("room",), ("room", "coin"), 1.5, b"room", frozenset(["room"]), len, object(),
)
NO_AMOUNTS = (
    -1, -(10 ** 30), 10 ** 30 + 1, 10 ** 5000, True, False, None, "", "1", "room", [], [1], (), (1,), {}, {"room": 1},
    1.0, 0.0, b"1", {1}, len, object(),
)
NO_DICTS = (
    None, True, False, 0, 1, -1, 10 ** 5000, "", "room", [], ["room"], [("room", 1)], (), ("room", 1),
    (("room", 1),), {"room"}, frozenset(), 1.5, b"", len, dict, object(),
)
# Amounts of three wares in every mixture of 0, 1, 2 and a great number, in told form.
COUNTS = (0, 1, 2, 10 ** 30)
SOME = [
    {ware: count for ware, count in zip(WARES, counts) if count}
    for counts in itertools.product(COUNTS, repeat=3)
]


def in_every_order(amounts):
    return [dict(items) for items in itertools.permutations(amounts.items())]


class Taken(unittest.TestCase):
    def test_what_is_right_is_told(self):
        for handed, hoped in (
            ({}, {}), ({"room": 1}, {"room": 1}), ({"coin": 7, "room": 2}, {"room": 2, "coin": 7}),
            ({"room": 1, "coin": 2, "hand": 3}, {"room": 1, "coin": 2, "hand": 3}),
        ):
            with self.subTest(handed):
                told = amounts_of(handed, WARES)
                self.assertIs(type(told), dict)
                self.assertEqual(told, hoped)

    def test_the_greatest_and_the_least(self):
        self.assertEqual(amounts_of({"room": 10 ** 30, "coin": 1}, WARES), {"room": 10 ** 30, "coin": 1})
        self.assertEqual(amounts_of({"room": 0}, WARES), {})

    def test_wares_at_nought_are_left_out(self):
        self.assertEqual(amounts_of({"room": 0, "coin": 5, "hand": 0}, WARES), {"coin": 5})
        self.assertEqual(amounts_of({"room": 0, "coin": 0, "hand": 0}, WARES), {})

    def test_one_ware_alone(self):
        self.assertEqual(amounts_of({"room": 3}, ["room"]), {"room": 3})
        with self.assertRaises(NoWare):
            amounts_of({"coin": 3}, ["room"])

    def test_what_was_handed_in_stays(self):
        handed = {"room": 0, "coin": 5}
        wares = list(WARES)
        told = amounts_of(handed, wares)
        self.assertEqual(handed, {"room": 0, "coin": 5})
        self.assertEqual(wares, WARES)
        told["hand"] = 9
        self.assertEqual(handed, {"room": 0, "coin": 5})

    def test_what_is_told_stays(self):
        for handed in ({"coin": 5}, {"room": 0, "coin": 5}):
            told = amounts_of(handed, WARES)
            self.assertIsNot(told, handed)
            handed.clear()
            self.assertEqual(told, {"coin": 5})


class LikeAnything:
    """Equal to whatever it is compared with, but no text."""

    def __eq__(self, other):
        return True

    def __hash__(self):
        return 1


class Refused(unittest.TestCase):
    def test_no_dict(self):
        for thing in NO_DICTS:
            with self.subTest(kind=type(thing)):
                with self.assertRaises(NoAmount):
                    amounts_of(thing, WARES)

    def test_no_ware(self):
        for key in NO_WARES:
            with self.subTest(kind=type(key)):
                with self.assertRaises(NoWare):
                    amounts_of({key: 1}, WARES)

    def test_a_key_that_says_it_is_equal_to_a_ware(self):
        with self.assertRaises(NoWare):
            amounts_of({LikeAnything(): 1}, WARES)

    def test_no_ware_at_nought(self):
        with self.assertRaises(NoWare):
            amounts_of({"corn": 0}, WARES)

    def test_no_ware_wherever_it_stands(self):
        for key in NO_WARES:
            for value in (1, 0, -1, None, "1"):
                for handed in in_every_order({"room": 1, key: value, "coin": 2}):
                    with self.assertRaises(NoWare):
                        amounts_of(handed, WARES)

    def test_no_ware_goes_ahead_of_a_bad_value_beside_it(self):
        for value in NO_AMOUNTS:
            for handed in in_every_order({"room": value, "corn": 1, "coin": 2}):
                with self.assertRaises(NoWare):
                    amounts_of(handed, WARES)

    def test_no_amount(self):
        for value in NO_AMOUNTS:
            with self.subTest(kind=type(value)):
                with self.assertRaises(NoAmount):
                    amounts_of({"room": value}, WARES)

    def test_no_amount_wherever_it_stands(self):
        for value in NO_AMOUNTS:
            for handed in in_every_order({"room": value, "coin": 2, "hand": 0}):
                with self.assertRaises(NoAmount):
                    amounts_of(handed, WARES)

    def test_what_is_refused_stays(self):
        for handed, refusal in (({"room": 0, "corn": 1}, NoWare), ({"room": 0, "coin": -1}, NoAmount)):
            before = dict(handed)
            with self.assertRaises(refusal):
                amounts_of(handed, WARES)
            self.assertEqual(handed, before)


class AmountOf(unittest.TestCase):
    def test_named_and_not_named(self):
        self.assertEqual(amount_of({"room": 3, "coin": 10 ** 40}, "room"), 3)
        self.assertEqual(amount_of({"room": 3, "coin": 10 ** 40}, "coin"), 10 ** 40)
        self.assertEqual(amount_of({"room": 3}, "coin"), 0)
        self.assertEqual(amount_of({}, "room"), 0)

    def test_asking_names_nothing(self):
        amounts = {"room": 3}
        amount_of(amounts, "coin")
        self.assertEqual(amounts, {"room": 3})


class Reckoning(unittest.TestCase):
    def test_sums(self):
        for one, other, hoped in (
            ({}, {}, {}), ({"room": 1}, {}, {"room": 1}), ({}, {"room": 1}, {"room": 1}),
            ({"room": 1}, {"room": 2}, {"room": 3}), ({"room": 1}, {"coin": 2}, {"room": 1, "coin": 2}),
            ({"room": 1, "coin": 4}, {"coin": 2, "hand": 9}, {"room": 1, "coin": 6, "hand": 9}),
            ({"room": 10 ** 30}, {"room": 10 ** 30}, {"room": 2 * 10 ** 30}),
            ({"room": 10 ** 60 + 1}, {"room": 1}, {"room": 10 ** 60 + 2}),
        ):
            with self.subTest(one=one, other=other):
                self.assertEqual(added(one, other), hoped)

    def test_within_and_beyond(self):
        for one, other, first in (
            ({}, {}, None), ({}, {"room": 1}, None), ({"room": 1}, {}, "room"), ({"room": 2}, {"room": 2}, None),
            ({"room": 3}, {"room": 2}, "room"), ({"room": 1}, {"room": 2}, None), ({"room": 1}, {"coin": 1}, "room"),
            ({"room": 1, "coin": 1}, {"room": 1}, "coin"), ({"room": 2, "coin": 1}, {"room": 1, "coin": 1}, "room"),
            ({"room": 10 ** 30 + 1}, {"room": 10 ** 30}, "room"), ({"room": 10 ** 30}, {"room": 10 ** 30}, None),
        ):
            with self.subTest(one=one, other=other):
                self.assertEqual(beyond(one, other), first)
                self.assertIs(within(one, other), first is None)

    def test_the_first_ware_by_alphabet_whatever_the_order(self):
        for one in in_every_order({"room": 5, "coin": 5, "hand": 5}):
            for other in in_every_order({"room": 4, "coin": 4, "hand": 4}):
                self.assertEqual(beyond(one, other), "coin")
            self.assertEqual(beyond(one, {}), "coin")
            self.assertEqual(beyond(one, {"coin": 5}), "hand")
            self.assertEqual(beyond(one, {"hand": 7, "coin": 5}), "room")

    def test_names_that_begin_one_another(self):
        for one in in_every_order({"ab": 1, "a": 1, "abc": 1, "b": 1}):
            self.assertEqual(beyond(one, {}), "a")
            self.assertEqual(beyond(one, {"a": 1}), "ab")
            self.assertEqual(beyond(one, {"a": 1, "ab": 1}), "abc")

    def test_without(self):
        for one, other, hoped in (
            ({}, {}, {}), ({"room": 1}, {}, {"room": 1}), ({"room": 3}, {"room": 2}, {"room": 1}),
            ({"room": 3}, {"room": 3}, {}), ({"room": 3, "coin": 2}, {"room": 3}, {"coin": 2}),
            ({"room": 3, "coin": 2}, {"room": 3, "coin": 1}, {"coin": 1}),
            ({"room": 10 ** 60}, {"room": 1}, {"room": 10 ** 60 - 1}),
        ):
            with self.subTest(one=one, other=other):
                self.assertEqual(without(one, other), hoped)

    def test_without_is_refused(self):
        for one, other in (
            ({}, {"room": 1}), ({"room": 2}, {"room": 3}), ({"room": 2}, {"coin": 1}),
            ({"room": 2, "coin": 9}, {"room": 3, "coin": 1}), ({"room": 10 ** 30}, {"room": 10 ** 30 + 1}),
        ):
            with self.subTest(one=one, other=other):
                with self.assertRaises(NoAmount):
                    without(one, other)

    def test_totals(self):
        self.assertEqual(total_of([]), {})
        self.assertEqual(total_of([{}]), {})
        self.assertEqual(total_of([{"room": 1}]), {"room": 1})
        self.assertEqual(
            total_of([{"room": 1}, {"coin": 2}, {}, {"room": 4, "hand": 1}]), {"room": 5, "coin": 2, "hand": 1}
        )
        self.assertEqual(total_of([{"room": 10 ** 30}] * 40), {"room": 40 * 10 ** 30})

    def test_all_pairs(self):
        for one, other in itertools.product(SOME, repeat=2):
            left = [one.get(ware, 0) for ware in WARES]
            right = [other.get(ware, 0) for ware in WARES]
            sums = {ware: a + b for ware, a, b in zip(WARES, left, right) if a + b}
            more = sorted(ware for ware, a, b in zip(WARES, left, right) if a > b)
            self.assertEqual(added(one, other), sums)
            self.assertEqual(total_of([one, other]), sums)
            self.assertEqual(beyond(one, other), more[0] if more else None)
            self.assertIs(within(one, other), not more)
            if any(b > a for a, b in zip(left, right)):
                with self.assertRaises(NoAmount):
                    without(one, other)
            else:
                rest = {ware: a - b for ware, a, b in zip(WARES, left, right) if a - b}
                self.assertEqual(without(one, other), rest)


class Apart(unittest.TestCase):
    def test_what_was_handed_in_stays(self):
        one = {"room": 3, "coin": 2}
        other = {"room": 1, "coin": 2}
        for reckon in (added, within, beyond, without):
            with self.subTest(reckon.__name__):
                reckon(one, other)
                self.assertEqual((one, other), ({"room": 3, "coin": 2}, {"room": 1, "coin": 2}))
        with self.assertRaises(NoAmount):
            without(other, one)
        self.assertEqual((one, other), ({"room": 3, "coin": 2}, {"room": 1, "coin": 2}))
        many = [one, other]
        total_of(many)
        self.assertEqual(many, [{"room": 3, "coin": 2}, {"room": 1, "coin": 2}])

    def test_what_is_told_is_the_askers_own(self):
        for one, other in (({"room": 3}, {}), ({}, {"room": 3}), ({"room": 3}, {"room": 3}), ({}, {})):
            before = (dict(one), dict(other))
            tellings = [added(one, other), total_of([one, other]), total_of([one]), total_of([other])]
            if within(other, one):
                tellings.append(without(one, other))
            for told in tellings:
                told["hand"] = 5
                told["room"] = 8
                self.assertEqual((one, other), before)

    def test_what_is_told_stays_when_what_was_handed_in_changes(self):
        for one, other in (({"room": 3}, {}), ({"room": 3}, {"room": 1}), ({"room": 4, "coin": 1}, {"coin": 1})):
            tellings = [added(one, other), without(one, other), total_of([one, other]), total_of([one])]
            before = [dict(told) for told in tellings]
            one["room"] = 99
            other["hand"] = 99
            self.assertEqual(tellings, before)

    def test_one_with_itself(self):
        one = {"room": 3, "coin": 2}
        self.assertEqual(added(one, one), {"room": 6, "coin": 4})
        self.assertEqual(without(one, one), {})
        self.assertEqual(total_of([one, one, one]), {"room": 9, "coin": 6})
        self.assertIs(within(one, one), True)
        self.assertEqual(one, {"room": 3, "coin": 2})

    def test_the_empty_total_is_new_each_time(self):
        total_of([])["room"] = 1
        self.assertEqual(total_of([]), {})


if __name__ == "__main__":
    unittest.main()
