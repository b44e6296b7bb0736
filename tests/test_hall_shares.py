"""Points 78 and 79: the most that a house may have, and the shares of a ware, as the hall tells them."""

import copy
import random
import unittest

from quotatree.errors import NoAmount, NoHouse, NoNumber, NoRoom, NoWare, TreeError
from quotatree.even import even
from quotatree.hall import Hall
from quotatree.parts import parted
from quotatree.tree import Tree

VAST = 10 ** 5000
GREAT = 10 ** 30
THINGS = (
    None, True, False, 0, 1, -1, VAST, "", "Top", "top ", "topp", "nobody", "gold", [], ["top"], (), ("top",), {},
    {"top": 1}, {"top"}, 1.5, b"top", len, object(),
)


def houses():
    hall = Hall(["room", "coin"], "top", {"room": 2}, {"room": 20, "coin": 12})
    hall.found("mill", "top", {"room": 4, "coin": 3}, {"room": 10, "coin": 6}, 2)
    hall.found("loft", "mill", {"room": 2}, {"room": 5}, 1)
    hall.found("inn", "top", {"room": 3, "coin": 2}, {"room": 12, "coin": 8}, 3)
    return hall


def all_told(hall):
    return copy.deepcopy((
        [(name, hall.line(name), hall.use(name), hall.own(name), hall.promised(name)) for name in hall.names()],
        [hall.tell(number) for number in hall.numbers()],
    ))


class ShareCase(unittest.TestCase):
    def assert_refused(self, hall, refusal, does, *things):
        before = all_told(hall)
        with self.assertRaises(TreeError) as caught:
            does(*things)
        self.assertIs(type(caught.exception), refusal)
        self.assertEqual(all_told(hall), before)


class Most(ShareCase):
    def test_an_empty_hall(self):
        hall = houses()
        for house, ware, greatest in (
            ("top", "room", 20), ("top", "coin", 12), ("mill", "room", 10), ("mill", "coin", 6), ("loft", "room", 5),
            ("loft", "coin", 0), ("inn", "room", 12), ("inn", "coin", 8),
        ):
            for rank in (0, 9):
                self.assertEqual(hall.most(house, ware, rank), greatest)

    def test_what_is_left_of_the_promise_or_the_loan(self):
        hall = houses()
        hall.ask("mill", {"room": 10}, 5)
        # As a loan mill may have nothing at the rank 5, but its promise; at the rank 6 it may have all.
        self.assertEqual([hall.most("mill", "room", rank) for rank in (0, 5, 6)], [4, 4, 10])
        self.assertEqual([hall.most("loft", "room", rank) for rank in (0, 5, 6)], [2, 2, 5])
        hall.ask("mill", {"room": 3})
        self.assertEqual(hall.numbers(), [2])
        hall.ask("mill", {"room": 7}, 5)
        self.assertEqual([hall.most("mill", "room", rank) for rank in (0, 5, 6)], [1, 1, 7])
        hall.ask("mill", {"room": 1})
        self.assertEqual([hall.most("mill", "room", rank) for rank in (0, 5, 6)], [6, 6, 6])

    def test_the_rank_left_out(self):
        hall = houses()
        hall.ask("inn", {"room": 12}, 0)
        self.assertEqual((hall.most("inn", "room"), hall.most("inn", "room", 1)), (3, 12))
        self.assertEqual(hall.most("inn", "room", rank=1), 12)

    def test_nought(self):
        hall = houses()
        hall.ask("top", {"room": 2})
        hall.ask("top", {"room": 18}, 9)
        self.assertEqual((hall.most("top", "room", 9), hall.most("loft", "coin", 9)), (0, 0))

    def test_refusals_in_their_order(self):
        hall = houses()
        for thing in THINGS:
            for ware, rank in (("room", 0), ("gold", 0), (None, None), ("room", 10)):
                self.assert_refused(hall, NoHouse, hall.most, thing, ware, rank)
            for rank in (0, 10, None):
                self.assert_refused(hall, NoWare, hall.most, "mill", thing, rank)
        for thing in THINGS + (10, 0.0, "0"):
            if thing not in (0, 1) or isinstance(thing, (bool, float)):
                self.assert_refused(hall, NoNumber, hall.most, "mill", "room", thing)
        self.assert_refused(hall, NoWare, hall.most, "mill", "mill")

    def test_each_ask_up_to_the_most_is_done_and_none_for_more(self):
        for seed in range(60):
            draws = random.Random(seed)
            hall = drawn_hall(draws)
            house, ware, rank = draws.choice(hall.names()), draws.choice(["coin", "room"]), draws.randint(0, 9)
            before = all_told(hall)
            greatest = hall.most(house, ware, rank)
            self.assertEqual(all_told(hall), before)
            for pieces in range(1, greatest + 4):
                other = copy.deepcopy(hall)
                with self.subTest(seed=seed, pieces=pieces):
                    if pieces <= greatest:
                        self.assertEqual(other.ask(house, {ware: pieces}, rank)[0], "hold")
                    else:
                        self.assert_refused(other, NoRoom, other.ask, house, {ware: pieces}, rank)


def drawn_hall(draws):
    hall = houses()
    for time in range(draws.randint(0, 14)):
        amounts = {ware: draws.randint(1, 5) for ware in draws.sample(["coin", "room"], draws.randint(1, 2))}
        try:
            hall.ask(draws.choice(hall.names()), amounts, draws.randint(0, 9), draws.choice((None, 1, 3)))
        except NoRoom:
            if draws.random() < 0.3:
                hall.turn()
            elif hall.numbers():
                hall.back(draws.choice(hall.numbers()))
    return hall


class Shares(ShareCase):
    def test_an_empty_hall(self):
        # By weights 1, 2 and 3: mill is full at 10 by 3, then top at the rest.
        hall = houses()
        wants = {"mill": 99, "loft": 99, "inn": 99}
        self.assertEqual(hall.shares("room", wants), [
            ("inn", (10, 1), "top"), ("loft", (10, 3), "mill"), ("mill", (20, 3), "mill"),
        ])

    def test_beside_holds(self):
        hall = houses()
        hall.ask("loft", {"room": 2})
        hall.ask("mill", {"room": 2, "coin": 3})
        hall.ask("inn", {"room": 5})
        self.assertEqual(hall.shares("room", {"mill": 99, "loft": 1, "inn": 99, "top": 1}), [
            ("inn", (27, 5), "top"), ("loft", (1, 1), None), ("mill", (18, 5), "top"), ("top", (1, 1), None),
        ])
        self.assertEqual(hall.shares("coin", {"mill": 99, "loft": 1}), [
            ("loft", (0, 1), "loft"), ("mill", (3, 1), "mill"),
        ])

    def test_no_wants_and_wants_at_the_edges(self):
        hall = houses()
        self.assertEqual(hall.shares("room", {}), [])
        self.assertEqual(hall.shares("room", {"inn": 0}), [("inn", (0, 1), None)])
        self.assertEqual(hall.shares("room", {"inn": GREAT}), [("inn", (12, 1), "inn")])

    def test_weights_told_by_a_function(self):
        called = []

        def weigh(name):
            called.append(name)
            return 1

        hall = houses()
        self.assertEqual(hall.shares("room", {"mill": 99, "loft": 99}, weigh), [
            ("loft", (5, 1), "loft"), ("mill", (5, 1), "mill"),
        ])
        self.assertEqual(set(called), {"mill", "loft"})
        self.assertEqual(hall.shares("room", {"mill": 99, "loft": 99}, weigh=None), [
            ("loft", (10, 3), "mill"), ("mill", (20, 3), "mill"),
        ])

    def test_nothing_changes_by_it(self):
        hall = drawn_hall(random.Random(7))
        before, wants = all_told(hall), {"mill": 9, "loft": 0}
        hall.shares("room", wants).clear()
        self.assertEqual((all_told(hall), wants), (before, {"mill": 9, "loft": 0}))

    def refuse_to_weigh(self, name):
        raise AssertionError("no weight is asked for where the shares are refused")

    def test_no_ware(self):
        hall = houses()
        for thing in THINGS + ("mill", "Room"):
            for wants in ({"mill": 1}, {}, None, {"nobody": 1}, {"mill": -1}):
                self.assert_refused(hall, NoWare, hall.shares, thing, wants, self.refuse_to_weigh)

    def test_wants_that_are_no_dict(self):
        hall = houses()
        for thing in THINGS + ([("mill", 1)],):
            if not isinstance(thing, dict):
                self.assert_refused(hall, NoAmount, hall.shares, "room", thing, self.refuse_to_weigh)

    def test_keys_that_are_no_houses(self):
        hall = houses()
        for thing in THINGS + ("room", "Mill"):
            if not isinstance(thing, (list, dict, set)):
                for wants in ({thing: 1}, {thing: -1}, {"mill": "x", thing: 1}, {"mill": 1, thing: None}, {thing: 0}):
                    with self.subTest(kind=type(thing)):
                        self.assert_refused(hall, NoHouse, hall.shares, "room", wants, self.refuse_to_weigh)

    def test_values_that_are_no_amounts(self):
        hall = houses()
        for thing in THINGS + (GREAT + 1, -GREAT, 1.0, "1"):
            if thing not in (0, 1) or isinstance(thing, (bool, float)):
                for wants in ({"mill": thing}, {"mill": 1, "inn": thing}, {"inn": thing, "mill": 0}):
                    with self.subTest(kind=type(thing)):
                        self.assert_refused(hall, NoAmount, hall.shares, "room", wants, self.refuse_to_weigh)

    def test_each_may_ask_for_the_whole_part_of_its_share(self):
        asks = 0
        for seed in range(300):
            draws = random.Random(seed)
            hall = drawn_hall(draws)
            ware, names = draws.choice(["coin", "room"]), draws.sample(hall.names(), draws.randint(1, 4))
            weigh = draws.choice((None, lambda name: 1 + len(name) * 7 % 10))
            dealt = hall.shares(ware, {name: draws.randint(0, 15) for name in names}, weigh)
            draws.shuffle(dealt)
            for name, share, paper in dealt:
                pieces = parted(share)[0]
                if pieces > 0:
                    holds = hall.numbers()
                    with self.subTest(seed=seed, name=name):
                        row = hall.ask(name, {ware: pieces}, draws.randint(0, 9))
                        self.assertEqual((row[0], row[7]), ("hold", []))
                        self.assertEqual(hall.numbers(), holds + [row[1]])
                    asks += 1
        self.assertGreater(asks, 200)

    def test_as_even_tells_them(self):
        """With rooms that the test reckons itself."""
        caps = {"top": {"room": 20, "coin": 12}, "mill": {"room": 10, "coin": 6}, "loft": {"room": 5},
                "inn": {"room": 12, "coin": 8}}
        tree = Tree(["room", "coin"], "top", {}, {}, 1)
        for name, elder, weight in (("mill", "top", 2), ("loft", "mill", 1), ("inn", "top", 3)):
            tree.found(name, elder, {}, {}, weight)
        for seed in range(100):
            draws = random.Random(seed)
            hall = drawn_hall(draws)
            ware = draws.choice(["coin", "room"])
            holds = [hall.tell(number) for number in hall.numbers()]
            rooms = {name: caps[name].get(ware, 0) - sum(
                hold[2].get(ware, 0) for hold in holds if name in hall.line(hold[1])) for name in caps}
            wants = {name: draws.randint(0, 9) for name in draws.sample(hall.names(), draws.randint(0, 4))}
            with self.subTest(seed=seed):
                self.assertEqual(hall.shares(ware, wants), even(tree, rooms, wants))


if __name__ == "__main__":
    unittest.main()
