"""Points 51 to 56: which holds are ended for an ask, what is left over, and papers of it."""

import itertools
import random
import unittest

from quotatree.claims import claims, is_claims, left_over, roomy
from quotatree.errors import NoHouse
from quotatree.holds import Hold, Loan
from quotatree.reasons import reason
from quotatree.tree import Tree

VAST = 10 ** 5000
NO_HOUSES = (
    None, True, False, 0, 1, -1, VAST, "", "Top", "top ", "to", "topp", "nobody", "room", [], ["top"], (), ("top",),
    {}, {"top": 1}, {"top"}, 1.5, b"top", len, object(),
)


def houses():
    """top above mill (above loft) and inn; loft's limit does not name coin."""
    tree = Tree(["room", "coin", "hand"], "top", {}, {"room": 30, "coin": 20, "hand": 5})
    tree.found("mill", "top", {}, {"room": 12, "coin": 9})
    tree.found("loft", "mill", {}, {"room": 10, "hand": 5})
    tree.found("inn", "top", {}, {"room": 20, "coin": 12, "hand": 5})
    return tree


def loan(number, house, amounts, rank=0):
    return Loan(number, house, amounts, rank, None)


def promised(number, house, amounts, rank=0):
    return Hold(number, house, amounts, rank, None)


def told(holds):
    return [(hold.__class__, hold.told()) for hold in holds]


def numbers_of(given):
    return [claim[0] for claim in given]


class Roomy(unittest.TestCase):
    def assert_roomy(self, expected, holds, house, amounts):
        self.assertIs(roomy(houses(), holds, house, amounts), expected)

    def test_an_exact_match(self):
        self.assert_roomy(True, [], "loft", {"room": 10})
        self.assert_roomy(False, [], "loft", {"room": 11})
        for hold in (loan, promised):
            self.assert_roomy(True, [hold(1, "loft", {"room": 4})], "loft", {"room": 6})
            self.assert_roomy(False, [hold(1, "loft", {"room": 4})], "loft", {"room": 7})

    def test_every_place_of_the_line(self):
        self.assert_roomy(True, [loan(1, "mill", {"room": 5})], "loft", {"room": 7})
        self.assert_roomy(False, [loan(1, "mill", {"room": 6})], "loft", {"room": 7})
        self.assert_roomy(True, [loan(1, "inn", {"room": 23})], "loft", {"room": 7})
        self.assert_roomy(False, [loan(1, "inn", {"room": 24})], "loft", {"room": 7})

    def test_places_beneath_and_beside_are_not_looked_at(self):
        holds = [loan(1, "loft", {"room": 11}), loan(2, "inn", {"coin": 13})]
        self.assert_roomy(True, holds, "mill", {"room": 1})
        self.assert_roomy(True, holds, "top", {"room": 19, "coin": 7})
        self.assert_roomy(False, holds, "top", {"room": 20, "coin": 7})
        self.assert_roomy(False, holds, "top", {"room": 19, "coin": 8})

    def test_other_wares_are_not_looked_at(self):
        self.assert_roomy(True, [loan(1, "top", {"coin": 999})], "loft", {"room": 10})
        self.assert_roomy(False, [loan(1, "top", {"coin": 999})], "mill", {"coin": 1})

    def test_a_ware_that_the_limit_does_not_name(self):
        self.assert_roomy(False, [], "loft", {"coin": 1})
        self.assert_roomy(False, [], "loft", {"coin": 1, "room": 1})
        self.assert_roomy(False, [], "loft", {"room": 1, "hand": 1})

    def test_no_house(self):
        for thing in NO_HOUSES:
            for holds in ([], [loan(1, "loft", {"room": 1})]):
                for does, things in (
                    (roomy, ({"room": 1},)), (claims, ({"room": 1}, 0, False)), (claims, ({"room": 99}, 9, True)),
                    (is_claims, ({"room": 1}, 0, False, [])),
                    (is_claims, ({"room": 99}, 0, True, [(1, "", {}, "", "")])),
                ):
                    with self.subTest(does.__name__, kind=type(thing)), self.assertRaises(NoHouse):
                        does(houses(), holds, thing, *things)


class Claims(unittest.TestCase):
    def assert_claims(self, expected, holds, house, amounts, rank=0, sure=False):
        before, asked = told(holds), dict(amounts)
        self.assertEqual(claims(houses(), holds, house, amounts, rank, sure), expected)
        self.assertEqual((told(holds), amounts), (before, asked))
        given = [] if expected is None else expected
        self.assertIs(is_claims(houses(), holds, house, amounts, rank, sure, given), expected is not None)

    def test_all_may_stay(self):
        self.assert_claims([], [], "loft", {"room": 10})
        holds = [loan(1, "loft", {"room": 2}), loan(2, "mill", {"room": 2}), promised(3, "loft", {"room": 1})]
        for sure in (False, True):
            self.assert_claims([], holds, "loft", {"room": 7}, 9, sure)

    def test_none_where_there_is_a_reason(self):
        self.assert_claims(None, [], "loft", {"room": 11}, 9, True)
        self.assert_claims(None, [], "loft", {"coin": 1}, 9, True)
        self.assert_claims(None, [promised(1, "loft", {"room": 5})], "loft", {"room": 6}, 9, True)
        self.assert_claims(None, [loan(1, "loft", {"room": 5}, 4)], "loft", {"room": 6}, 4, False)
        # At a later place, in a later ware; and beyond the limit by fixed holds alone.
        self.assert_claims(None, [promised(1, "inn", {"room": 21})], "mill", {"coin": 1, "room": 10}, 9, True)
        self.assert_claims(None, [promised(1, "loft", {"room": 99})], "loft", {"room": 1}, 0, True)

    def test_an_exact_match_stays(self):
        self.assert_claims([], [loan(1, "loft", {"room": 4})], "loft", {"room": 6}, 9)
        self.assert_claims(
            [(1, "loft", {"room": 4}, "loft", "room")], [loan(1, "loft", {"room": 4})], "loft", {"room": 7}, 9)

    def test_the_first_comers_stay(self):
        holds = [loan(number, "loft", {"room": 2}) for number in (2, 3, 5, 7)]
        self.assert_claims([], holds, "loft", {"room": 2}, 1)
        self.assert_claims([(7, "loft", {"room": 2}, "loft", "room")], holds, "loft", {"room": 3}, 1)
        self.assert_claims(
            [(number, "loft", {"room": 2}, "loft", "room") for number in (5, 7)], holds, "loft", {"room": 6}, 1)
        self.assert_claims(
            [(number, "loft", {"room": 2}, "loft", "room") for number in (2, 3, 5, 7)], holds, "loft", {"room": 9}, 1)

    def test_first_comers_stay_whatever_their_ranks(self):
        holds = [loan(1, "loft", {"room": 5}, 0), loan(2, "loft", {"room": 5}, 8)]
        self.assert_claims([(2, "loft", {"room": 5}, "loft", "room")], holds, "loft", {"room": 1}, 9)
        self.assert_claims([(1, "loft", {"room": 5}, "loft", "room")], holds, "loft", {"room": 1}, 8)
        self.assert_claims([(2, "loft", {"room": 5}, "loft", "room")], holds, "loft", {"room": 1}, 0, True)

    def test_what_stands_in_nobodys_way_stays(self):
        holds = [
            loan(1, "loft", {"room": 8}), loan(2, "mill", {"coin": 9}), loan(3, "inn", {"room": 9}),
            loan(4, "top", {"room": 1}), loan(5, "loft", {"hand": 99}), loan(6, "mill", {"room": 2}),
        ]
        self.assert_claims([(1, "loft", {"room": 8}, "loft", "room")], holds, "loft", {"room": 3}, 1)

    def test_a_later_small_one_stays_where_an_earlier_great_one_goes(self):
        holds = [loan(1, "loft", {"room": 8}), loan(2, "loft", {"room": 3}), loan(3, "loft", {"room": 2}),
                 loan(4, "loft", {"room": 1})]
        self.assert_claims(
            [(1, "loft", {"room": 8}, "loft", "room"), (3, "loft", {"room": 2}, "loft", "room")], holds,
            "loft", {"room": 6}, 1)

    def test_the_fixed_ones_take_their_room_first_whenever_they_came(self):
        holds = [loan(1, "loft", {"room": 4}), promised(2, "loft", {"room": 3}), loan(3, "loft", {"room": 3}, 5)]
        self.assert_claims([(1, "loft", {"room": 4}, "loft", "room")], holds, "loft", {"room": 1}, 1)
        self.assert_claims([(3, "loft", {"room": 3}, "loft", "room")], holds, "loft", {"room": 1}, 6)
        self.assert_claims([(3, "loft", {"room": 3}, "loft", "room")], holds, "loft", {"room": 2}, 0, True)

    def test_each_with_the_place_at_its_turn(self):
        holds = [
            loan(1, "inn", {"room": 20, "coin": 10}), loan(2, "mill", {"coin": 8, "room": 1}),
            loan(3, "loft", {"room": 9}), loan(4, "mill", {"room": 6}), loan(5, "top", {"room": 9}),
            loan(6, "mill", {"room": 5, "coin": 9}),
        ]
        self.assert_claims([
            (2, "mill", {"coin": 8, "room": 1}, "mill", "coin"), (3, "loft", {"room": 9}, "mill", "room"),
            (5, "top", {"room": 9}, "top", "room"), (6, "mill", {"room": 5, "coin": 9}, "mill", "coin"),
        ], holds, "mill", {"room": 4, "coin": 2}, 1)

    def test_the_first_place_by_the_line_then_by_alphabet(self):
        # The great loan is without room at each place that it comes to.
        great = {"room": 99, "hand": 99, "coin": 99}
        for asked, house, holder, place in (
            ({"room": 1, "hand": 1, "coin": 1}, "top", "top", ("top", "coin")),
            ({"room": 1, "hand": 1}, "top", "loft", ("top", "hand")),
            ({"hand": 1, "room": 1}, "top", "inn", ("top", "hand")),
            ({"room": 1, "coin": 1}, "inn", "inn", ("inn", "coin")),
            ({"room": 1, "coin": 1}, "mill", "top", ("top", "coin")),
            ({"room": 1}, "mill", "loft", ("mill", "room")), ({"room": 1}, "loft", "mill", ("mill", "room")),
            ({"room": 1}, "loft", "inn", ("top", "room")),
        ):
            with self.subTest(asked=asked, house=house, holder=holder):
                self.assert_claims([(1, holder, great) + place], [loan(1, holder, great)], house, asked, 1)

    def test_a_later_ware_of_a_nearer_house_goes_ahead(self):
        # At inn room lacks, at top coin would lack too.
        amounts = {"room": 20, "coin": 12}
        self.assert_claims(
            [(2, "inn", amounts, "inn", "room")], [promised(1, "mill", {"coin": 8}), loan(2, "inn", amounts)],
            "inn", {"room": 1}, 1)
        self.assert_claims(
            [(2, "inn", {"room": 20, "coin": 11}, "inn", "room")],
            [promised(1, "mill", {"coin": 9}), loan(2, "inn", {"room": 20, "coin": 11})],
            "inn", {"room": 1, "coin": 1}, 1)

    def test_holds_beyond_the_limit(self):
        holds = [loan(1, "loft", {"room": 6}), loan(2, "loft", {"room": 50}), loan(3, "loft", {"room": 5})]
        self.assert_claims(
            [(2, "loft", {"room": 50}, "loft", "room"), (3, "loft", {"room": 5}, "loft", "room")], holds,
            "loft", {"room": 1}, 1)

    def test_ranks(self):
        for own in range(10):
            for rank in range(10):
                holds = [loan(1, "loft", {"room": 10}, own), promised(2, "mill", {"room": 1}, own)]
                given = [(1, "loft", {"room": 10}, "loft", "room")]
                with self.subTest(own=own, rank=rank):
                    self.assert_claims(given if own < rank else None, holds, "loft", {"room": 1}, rank)
                    self.assert_claims(given, holds, "loft", {"room": 1}, rank, True)

    def test_what_is_told_is_the_askers_own(self):
        holds = [loan(1, "loft", {"room": 8})]
        given = claims(houses(), holds, "loft", {"room": 3}, 1, False)
        given[0][2]["room"] = 99
        given.clear()
        self.assertEqual(holds[0].amounts, {"room": 8})
        self.assert_claims([(1, "loft", {"room": 8}, "loft", "room")], holds, "loft", {"room": 3}, 1)

    def test_the_list_of_holds_stays(self):
        holds = [loan(1, "loft", {"room": 8}), promised(2, "loft", {"room": 1})]
        same = list(holds)
        claims(houses(), holds, "loft", {"room": 3}, 1, False)
        self.assertTrue(len(holds) == 2 and all(one is other for one, other in zip(holds, same)))


class LeftOver(unittest.TestCase):
    def setUp(self):
        self.holds = [loan(1, "loft", {"room": 8}), promised(2, "top", {"coin": 1}), loan(5, "inn", {"coin": 2})]

    def assert_left(self, numbers, given):
        left = left_over(self.holds, given)
        self.assertIsNot(left, self.holds)
        expected = [hold for hold in self.holds if hold.number in numbers]
        self.assertEqual(len(left), len(expected))
        # The very objects are told.
        self.assertTrue(all(one is other for one, other in zip(left, expected)))

    def test_what_is_not_given(self):
        self.assert_left([2, 5], [(1, "loft", {"room": 8}, "loft", "room")])
        self.assert_left([1, 2], [(5, "inn", {"coin": 2}, "top", "coin")])
        self.assert_left([2], [(5, "", {}, "", ""), (1, "", {}, "", "")])
        self.assert_left([], [(number, "", {}, "", "") for number in (1, 2, 5)])

    def test_nothing_given(self):
        self.assert_left([1, 2, 5], [])
        self.assertEqual(left_over([], [(1, "loft", {"room": 8}, "loft", "room")]), [])

    def test_numbers_that_no_hold_has(self):
        self.assert_left([1, 2, 5], [(3, "loft", {"room": 8}, "loft", "room"), (0, "", {}, "", "")])
        self.assert_left([1, 2, 5], [(-1, "loft", {"room": 8}, "loft", "room"), (VAST, "", {}, "", "")])
        self.assert_left([1, 5], [(9, "", {}, "", ""), (2, "", {}, "", ""), (2, "", {}, "", "")])

    def test_nothing_but_the_number_is_looked_at(self):
        # The number 2 is that of a promised hold of another house.
        self.assert_left([1, 5], [(2, "nobody", {"gold": -1}, 5, 1)])
        self.assert_left([1, 5], [(2,)])

    def test_the_order_handed_in_is_kept(self):
        self.holds.reverse()
        self.assert_left([1, 5], [(2, "", {}, "", "")])

    def test_nothing_handed_in_is_changed(self):
        given, before = [(2, "top", {"coin": 1}, "top", "coin")], told(self.holds)
        left_over(self.holds, given).clear()
        self.assertEqual(given, [(2, "top", {"coin": 1}, "top", "coin")])
        self.assertEqual(told(self.holds), before)


class ClaimPapers(unittest.TestCase):
    HOLDS = [
        loan(1, "loft", {"room": 8, "hand": 1}), loan(2, "mill", {"room": 1}), loan(3, "loft", {"room": 9}),
        promised(4, "mill", {"room": 2}),
    ]
    RIGHT = [(1, "loft", {"room": 8, "hand": 1}, "loft", "room"), (3, "loft", {"room": 9}, "loft", "room")]

    def is_right(self, given, house="loft", amounts=None, rank=1, sure=False):
        answer = is_claims(houses(), self.HOLDS, house, amounts or {"room": 4}, rank, sure, given)
        self.assertIs(type(answer), bool)
        return answer

    def test_the_right_one(self):
        self.assertTrue(self.is_right(self.RIGHT))
        self.assertTrue(self.is_right([(1, "loft", {"hand": 1, "room": 8}, "loft", "room"), self.RIGHT[1]]))
        self.assertTrue(self.is_right([], house="inn", amounts={"room": 8}))

    def test_a_reason_against_the_ask(self):
        for given in ([], self.RIGHT, self.RIGHT[:1]):
            self.assertFalse(self.is_right(given, rank=0))
            self.assertFalse(self.is_right(given, amounts={"room": 11}, sure=True))

    def test_tuples_that_lack_or_are_too_many_or_stand_otherwise(self):
        one, two = self.RIGHT
        more = (2, "mill", {"room": 1}, "mill", "room")
        for given in (
            [], [one], [two], [two, one], [one, one, two], [one, two, two], [one, two, one], [one, more, two],
            [more, one, two], [one, two, more], [one, two, (4, "mill", {"room": 2}, "mill", "room")],
            [one, two, (9, "loft", {"room": 1}, "loft", "room")],
        ):
            with self.subTest(given=given):
                self.assertFalse(self.is_right(given))
        self.assertFalse(self.is_right([one], house="inn", amounts={"room": 8}))

    def test_anything_otherwise_in_a_tuple(self):
        one, two = self.RIGHT
        amounts = {"room": 8, "hand": 1}
        for wrong in (
            (2, "loft", amounts, "loft", "room"), (9, "loft", amounts, "loft", "room"),
            (-1, "loft", amounts, "loft", "room"), (0, "loft", amounts, "loft", "room"),
            (1, "mill", amounts, "loft", "room"), (1, "nobody", amounts, "loft", "room"),
            (1, "", amounts, "loft", "room"),
            (1, "loft", {"room": 7, "hand": 1}, "loft", "room"), (1, "loft", {"room": 9, "hand": 1}, "loft", "room"),
            (1, "loft", {"room": 8}, "loft", "room"), (1, "loft", {"hand": 1}, "loft", "room"),
            (1, "loft", {}, "loft", "room"),
            (1, "loft", {"room": 8, "hand": 1, "coin": 0}, "loft", "room"),
            (1, "loft", {"room": 8, "hand": 1, "coin": 1}, "loft", "room"),
            (1, "loft", {"room": 8, "hand": 1, "gold": 0}, "loft", "room"),
            (1, "loft", {"room": 8, "gold": 1}, "loft", "room"), (1, "loft", {"room": 8, "hand": -1}, "loft", "room"),
            (1, "loft", amounts, "mill", "room"), (1, "loft", amounts, "top", "room"),
            (1, "loft", amounts, "nobody", "room"), (1, "loft", amounts, "", "room"),
            (1, "loft", amounts, "room", "loft"),
            (1, "loft", amounts, "loft", "hand"), (1, "loft", amounts, "loft", "coin"),
            (1, "loft", amounts, "loft", "gold"), (1, "loft", amounts, "loft", ""),
        ):
            with self.subTest(wrong=wrong):
                self.assertFalse(self.is_right([wrong, two]))
        self.assertFalse(self.is_right([one, (3, "loft", {"room": 9}, "mill", "room")]))

    def test_a_choice_that_would_do_but_is_another(self):
        # Without 1 and 2 there is room as well; so there is without the lot.
        self.assertFalse(self.is_right([(2, "mill", {"room": 1}, "mill", "room")] + self.RIGHT))

    def test_nothing_handed_in_is_changed(self):
        given = [(1, "loft", {"room": 8, "hand": 1}, "loft", "room"), (3, "loft", {"room": 9}, "loft", "room")]
        before = told(self.HOLDS)
        self.is_right(given)
        self.assertEqual(given, self.RIGHT)
        self.assertEqual(told(self.HOLDS), before)


class Rows(unittest.TestCase):
    """Drawn trees, holds and asks, held against sums of the test's own over plain dicts and tuples."""

    WARES = ["ale", "bread"]

    def draw(self, draws):
        self.elders, self.caps = {"a": None}, {"a": self.draw_amounts(draws, 8, 20)}
        tree = Tree(self.WARES, "a", {}, self.caps["a"])
        for name in "bcde"[:draws.randint(1, 4)]:
            self.elders[name], self.caps[name] = draws.choice(sorted(self.elders)), self.draw_amounts(draws, 5, 14)
            tree.found(name, self.elders[name], {}, self.caps[name])
        self.rows, holds, number = [], [], 0
        for time in range(draws.randint(0, 7)):
            number += draws.randint(1, 2)
            sure, house, rank = draws.random() < 0.2, draws.choice(sorted(self.elders)), draws.randint(0, 5)
            amounts = self.draw_amounts(draws, 1, 5)
            self.rows.append((number, house, amounts, rank, sure))
            holds.append((Hold if sure else Loan)(number, house, amounts, rank, None))
        return tree, holds

    def draw_amounts(self, draws, least, greatest):
        return {ware: draws.randint(least, greatest) for ware in draws.sample(self.WARES, draws.randint(1, 2))}

    def line(self, name):
        return [] if name is None else [name] + self.line(self.elders[name])

    def no_room(self, rows, house, asked):
        """The first place without room beside these rows, or None."""
        for at in self.line(house):
            for ware in sorted(asked):
                taken = sum(row[2].get(ware, 0) for row in rows if at in self.line(row[1]))
                if taken + asked[ware] > self.caps[at].get(ware, 0):
                    return (at, ware)
        return None

    def plain_claims(self, may_end, house, asked):
        stay = [row for row in self.rows if not may_end(row)]
        if self.no_room(stay, house, asked):
            return None
        given = []
        for row in self.rows:
            if may_end(row):
                place = self.no_room(stay + [row], house, asked)
                if place:
                    given.append(row[:3] + place)
                else:
                    stay.append(row)
        return given

    def check_no_other_choice_is_better(self, may_end, house, asked, given):
        """Point 54: in another choice that does, the first that differs is given up there, and stays by the claims."""
        open_rows = [row for row in self.rows if may_end(row)]
        for many in range(len(open_rows) + 1):
            for other in itertools.combinations([row[0] for row in open_rows], many):
                rest = [row for row in self.rows if row[0] not in other]
                differing = sorted(set(other) ^ set(numbers_of(given)))
                if differing and self.no_room(rest, house, asked) is None:
                    self.assertIn(differing[0], other)

    def test_rows(self):
        seen = {"none": 0, "empty": 0, "some": 0, "many": 0, "stays behind": 0}
        for seed in range(500):
            draws = random.Random(seed)
            tree, holds = self.draw(draws)
            before = told(holds)
            for time in range(3):
                house, asked = draws.choice(sorted(self.elders)), self.draw_amounts(draws, 1, 7)
                rank, sure = draws.randint(0, 6), draws.random() < 0.4

                def may_end(row):
                    return not row[4] and (sure or row[3] < rank)

                with self.subTest(seed=seed, time=time):
                    given = claims(tree, holds, house, asked, rank, sure)
                    self.assertEqual(given, self.plain_claims(may_end, house, asked))
                    self.assertEqual(given is None, reason(tree, holds, house, asked, rank, sure) is not None)
                    self.assertEqual(roomy(tree, holds, house, asked), self.no_room(self.rows, house, asked) is None)
                    self.assertEqual(told(holds), before)
                    if given is None:
                        seen["none"] += 1
                        continue
                    seen[("empty", "some")[len(given) > 0]] += 1
                    seen["many"] += len(given) > 1
                    left = left_over(holds, given)
                    seen["stays behind"] += len(given) > 0 and any(
                        hold.number > given[0][0] and hold.may_end(rank, sure) for hold in left)
                    self.assertTrue(roomy(tree, left, house, asked))
                    self.assertTrue(is_claims(tree, holds, house, asked, rank, sure, given))
                    self.check_no_other_choice_is_better(may_end, house, asked, given)
        self.assertTrue(all(count > 20 for count in seen.values()), seen)


if __name__ == "__main__":
    unittest.main()
