"""Points 41 to 47: takings, fixed holds, reasons against asks, the most, bars against moves."""

import random
import unittest

from quotatree.errors import NoHouse
from quotatree.holds import Hold, Loan
from quotatree.reasons import bar, fixed, is_bar, is_reason, most, reason, taking, used
from quotatree.tree import Tree

VAST = 10 ** 5000
NO_HOUSES = (
    None, True, False, 0, 1, -1, VAST, "", "Top", "top ", "to", "topp", "nobody", "room", [], ["top"], (), ("top",),
    {}, {"top": 1}, {"top"}, 1.5, b"top", len, object(),
)


def houses():
    """top above mill (above loft, above bin) and inn (above bar); loft's limit does not name coin."""
    tree = Tree(["room", "coin", "hand"], "top", {"room": 1}, {"room": 40, "coin": 30, "hand": 9})
    tree.found("mill", "top", {}, {"room": 15, "coin": 6, "hand": 9})
    tree.found("loft", "mill", {}, {"room": 8, "hand": 9})
    tree.found("bin", "loft", {}, {"room": 8, "coin": 5, "hand": 9})
    tree.found("inn", "top", {}, {"room": 20, "coin": 12, "hand": 9})
    tree.found("bar", "inn", {}, {"room": 9, "coin": 12, "hand": 9})
    return tree


def some_holds():
    """Some of them are of numbers that no store would have told, and no promise of the tree covers the promised."""
    return [
        Hold(2, "top", {"room": 3}, 0, None),
        Loan(3, "mill", {"room": 2, "coin": 1}, 4, 2),
        Hold(5, "bin", {"coin": 2}, 9, 1),
        Loan(8, "loft", {"room": 4}, 6, None),
        Loan(13, "bar", {"room": 5, "coin": 7}, 2, 7),
        Hold(14, "mill", {"room": 1}, 3, None),
    ]


def told(holds):
    return [(hold.__class__, hold.told()) for hold in holds]


def tree_told(tree):
    return [(name, tree.line(name), tree.promise_of(name), tree.cap_of(name), tree.weight_of(name))
            for name in tree.names()]


class Takings(unittest.TestCase):
    def test_the_house_and_all_beneath_it(self):
        tree, holds = houses(), some_holds()
        for house, ware, parts in (
            ("top", "room", [(2, 3), (3, 2), (8, 4), (13, 5), (14, 1)]), ("top", "coin", [(3, 1), (5, 2), (13, 7)]),
            ("mill", "room", [(3, 2), (8, 4), (14, 1)]), ("mill", "coin", [(3, 1), (5, 2)]),
            ("loft", "room", [(8, 4)]), ("loft", "coin", [(5, 2)]), ("bin", "room", []), ("bin", "coin", [(5, 2)]),
            ("inn", "room", [(13, 5)]), ("bar", "coin", [(13, 7)]), ("top", "hand", []), ("bar", "hand", []),
        ):
            with self.subTest(house=house, ware=ware):
                self.assertEqual(taking(tree, holds, house, ware), parts)

    def test_the_use(self):
        tree, holds = houses(), some_holds()
        for house, amounts in (
            ("top", {"room": 15, "coin": 10}), ("mill", {"room": 7, "coin": 3}), ("loft", {"room": 4, "coin": 2}),
            ("bin", {"coin": 2}), ("inn", {"room": 5, "coin": 7}), ("bar", {"room": 5, "coin": 7}),
        ):
            with self.subTest(house):
                self.assertEqual(used(tree, holds, house), amounts)

    def test_without_holds(self):
        for name in houses().names():
            self.assertEqual(taking(houses(), [], name, "room"), [])
            self.assertEqual(used(houses(), [], name), {})

    def test_holds_beyond_limits_and_promises(self):
        holds = [Hold(1, "loft", {"coin": 10 ** 30}, 0, None), Loan(2, "loft", {"coin": 10 ** 30, "room": 99}, 0, 1)]
        self.assertEqual(taking(houses(), holds, "top", "coin"), [(1, 10 ** 30), (2, 10 ** 30)])
        self.assertEqual(used(houses(), holds, "mill"), {"coin": 2 * 10 ** 30, "room": 99})

    def test_the_tree_is_looked_at_as_it_is(self):
        tree, holds = houses(), some_holds()
        tree.move("bar", "mill")
        self.assertEqual(taking(tree, holds, "mill", "coin"), [(3, 1), (5, 2), (13, 7)])
        self.assertEqual(used(tree, holds, "inn"), {})

    def test_what_is_told_is_the_askers_own(self):
        tree, holds = houses(), some_holds()
        before = told(holds)
        taking(tree, holds, "top", "room").clear()
        for name in tree.names():
            used(tree, holds, name)["room"] = 99
        self.assertEqual(told(holds), before)
        self.assertEqual(taking(tree, holds, "bin", "coin"), [(5, 2)])
        # One hold alone: the amounts told are not the dict of that hold.
        self.assertEqual(used(tree, holds, "bar"), {"room": 5, "coin": 7})

    def test_no_house(self):
        tree, holds, asked = houses(), some_holds(), {"room": 1}
        paper = ("top", "room", [])
        for thing in NO_HOUSES:
            for does, things in (
                (taking, (thing, "room")), (used, (thing,)), (reason, (thing, asked, 0, False)),
                (reason, (thing, asked, 0, True)), (reason, (thing, {"room": 99}, 0, True)),
                (is_reason, (thing, asked, 0, False, paper)), (is_reason, (thing, asked, 9, True, paper)),
                (most, (thing, "room", 0)), (bar, (thing, "inn")), (bar, ("mill", thing)), (bar, (thing, thing)),
                (is_bar, (thing, "inn", paper)), (is_bar, ("mill", thing, paper)),
            ):
                for some in (holds, []):
                    with self.subTest(does.__name__, kind=type(thing)), self.assertRaises(NoHouse):
                        does(tree, some, *things)

    def test_a_paper_with_a_wrong_house_does_not_hide_the_refusal(self):
        for does, things in (
            (is_reason, ("no", {"room": 1}, 0, False)), (is_bar, ("no", "top")), (is_bar, ("inn", "no")),
        ):
            with self.assertRaises(NoHouse):
                does(houses(), some_holds(), *things, ("no", "no", []))


class Fixed(unittest.TestCase):
    def test_every_rank_against_every_rank(self):
        for own in range(10):
            promised, loan = Hold(1, "top", {"room": 1}, own, None), Loan(2, "top", {"room": 1}, own, None)
            for rank in range(10):
                with self.subTest(own=own, rank=rank):
                    self.assertEqual(fixed([promised], rank, True), [promised])
                    self.assertEqual(fixed([promised], rank, False), [promised])
                    self.assertEqual(fixed([loan], rank, True), [])
                    self.assertEqual(fixed([loan], rank, False), [] if own < rank else [loan])

    def test_the_order_handed_in_is_kept(self):
        one, two, three, four = [
            Loan(7, "top", {"room": 1}, 5, None), Hold(3, "inn", {"room": 1}, 0, None),
            Loan(9, "top", {"room": 1}, 1, None), Loan(1, "bar", {"coin": 1}, 8, None),
        ]
        for handed in ([one, two, three, four], [four, three, two, one], [three, one, four, two]):
            left = fixed(handed, 4, False)
            self.assertEqual([hold.number for hold in left], [hold.number for hold in handed if hold is not three])
            # The very objects are told.
            self.assertTrue(all(any(hold is other for other in handed) for hold in left))

    def test_the_list_is_new(self):
        holds = some_holds()
        left = fixed(holds, 0, False)
        self.assertEqual(left, holds)
        left.clear()
        self.assertEqual(len(holds), 6)

    def test_without_holds(self):
        self.assertEqual(fixed([], 9, True), [])


class Reasons(unittest.TestCase):
    def test_an_exact_match_has_room_and_one_piece_more_has_none(self):
        # Of rank 0 all holds are fixed: 4 of 8 are left at loft, 8 of 15 at mill, 25 of 40 at top.
        tree, holds = houses(), some_holds()
        self.assertIsNone(reason(tree, holds, "loft", {"room": 4}, 0, False))
        self.assertEqual(reason(tree, holds, "loft", {"room": 5}, 0, False), ("loft", "room", [(8, 4)]))
        self.assertIsNone(reason(tree, holds, "mill", {"room": 8}, 0, False))
        self.assertEqual(
            reason(tree, holds, "mill", {"room": 9}, 0, False), ("mill", "room", [(3, 2), (8, 4), (14, 1)]))
        self.assertIsNone(reason(tree, holds, "top", {"room": 25}, 0, False))
        self.assertEqual(reason(tree, holds, "top", {"room": 26}, 0, False)[:2], ("top", "room"))

    def test_ranks_part_the_holders(self):
        # The loan 3 is of rank 4, the loan 8 of rank 6.
        tree, holds = houses(), some_holds()
        for rank, sure, parts in (
            (0, False, [(3, 2), (8, 4), (14, 1)]), (4, False, [(3, 2), (8, 4), (14, 1)]),
            (5, False, [(8, 4), (14, 1)]), (6, False, [(8, 4), (14, 1)]), (7, False, [(14, 1)]),
            (9, False, [(14, 1)]), (0, True, [(14, 1)]), (9, True, [(14, 1)]),
        ):
            with self.subTest(rank=rank, sure=sure):
                room = 15 - sum(part for number, part in parts)
                self.assertIsNone(reason(tree, holds, "mill", {"room": room}, rank, sure))
                self.assertEqual(reason(tree, holds, "mill", {"room": room + 1}, rank, sure), ("mill", "room", parts))

    def test_the_line_goes_ahead_of_the_alphabet(self):
        # At bin only room lacks, at mill only coin does; at loft both do.
        tree, holds = houses(), [Hold(1, "mill", {"coin": 6}, 0, None)]
        self.assertEqual(reason(tree, holds, "bin", {"coin": 1, "room": 9}, 0, False), ("bin", "room", []))
        self.assertEqual(reason(tree, holds, "bin", {"room": 8, "coin": 1}, 0, False), ("loft", "coin", []))
        self.assertEqual(reason(tree, holds, "mill", {"room": 16, "coin": 1}, 0, False), ("mill", "coin", [(1, 6)]))

    def test_the_first_ware_whatever_the_order_of_the_items(self):
        tree = houses()
        for asked in (
            {"coin": 31, "hand": 10, "room": 41}, {"room": 41, "hand": 10, "coin": 31},
            {"hand": 10, "coin": 31, "room": 41},
        ):
            self.assertEqual(reason(tree, [], "top", asked, 0, False), ("top", "coin", []))
        self.assertEqual(reason(tree, [], "top", {"room": 41, "hand": 10}, 0, False), ("top", "hand", []))
        self.assertEqual(reason(tree, [], "top", {"room": 41, "hand": 9, "coin": 30}, 0, False), ("top", "room", []))

    def test_a_ware_that_the_limit_does_not_name(self):
        tree = houses()
        for sure in (False, True):
            self.assertEqual(reason(tree, [], "loft", {"coin": 1}, 9, sure), ("loft", "coin", []))
            self.assertEqual(reason(tree, [], "bin", {"coin": 1}, 9, sure), ("loft", "coin", []))

    def test_holders_of_the_first_place_alone(self):
        # loft lacks room first; mill and top lack it too and have more holders.
        holds = some_holds()
        self.assertEqual(reason(houses(), holds, "bin", {"room": 30}, 0, False), ("bin", "room", []))
        self.assertEqual(reason(houses(), holds, "loft", {"room": 30}, 0, False), ("loft", "room", [(8, 4)]))

    def test_wares_that_are_not_asked_for_are_not_looked_at(self):
        holds = [Hold(1, "bar", {"room": 999}, 0, None)]
        self.assertIsNone(reason(houses(), holds, "bar", {"coin": 12}, 0, False))
        self.assertEqual(reason(houses(), holds, "bar", {"room": 1}, 0, True), ("bar", "room", [(1, 999)]))

    def test_holds_beside_the_line_count_further_up(self):
        holds = [Hold(1, "inn", {"room": 20}, 0, None), Hold(2, "top", {"room": 13}, 0, None)]
        self.assertIsNone(reason(houses(), holds, "loft", {"room": 7}, 0, False))
        self.assertEqual(reason(houses(), holds, "loft", {"room": 8}, 0, False), ("top", "room", [(1, 20), (2, 13)]))

    def test_holds_beyond_the_limit_leave_no_room(self):
        holds = [Loan(1, "loft", {"room": 50}, 5, None)]
        self.assertEqual(reason(houses(), holds, "loft", {"room": 1}, 5, False), ("loft", "room", [(1, 50)]))
        self.assertIsNone(reason(houses(), holds, "loft", {"room": 1}, 6, False))
        self.assertIsNone(reason(houses(), holds, "loft", {"room": 8}, 0, True))

    def test_great_numbers(self):
        great = 10 ** 30
        tree = Tree(["coin"], "top", {}, {"coin": great})
        holds = [Hold(1, "top", {"coin": great - 1}, 0, None)]
        self.assertIsNone(reason(tree, holds, "top", {"coin": 1}, 0, True))
        self.assertEqual(reason(tree, holds, "top", {"coin": 2}, 0, True), ("top", "coin", [(1, great - 1)]))

    def test_nothing_handed_in_is_changed_and_the_list_is_new(self):
        tree, holds, asked = houses(), some_holds(), {"room": 9, "coin": 1}
        before = (told(holds), tree_told(tree))
        paper = reason(tree, holds, "mill", asked, 0, False)
        self.assertEqual(paper, ("mill", "room", [(3, 2), (8, 4), (14, 1)]))
        paper[2].clear()
        self.assertEqual((told(holds), tree_told(tree)), before)
        self.assertEqual(asked, {"room": 9, "coin": 1})
        self.assertEqual(len(reason(tree, holds, "mill", asked, 0, False)[2]), 3)


class ReasonPapers(unittest.TestCase):
    def is_right(self, paper, rank=0, sure=False, house="mill", asked=None, holds=None):
        some = some_holds() if holds is None else holds
        answer = is_reason(houses(), some, house, asked or {"room": 9, "coin": 1}, rank, sure, paper)
        self.assertIs(type(answer), bool)
        return answer

    def test_the_right_one(self):
        self.assertTrue(self.is_right(("mill", "room", [(3, 2), (8, 4), (14, 1)])))
        self.assertTrue(self.is_right(("loft", "coin", []), house="loft", asked={"coin": 1}, holds=[]))

    def test_one_of_the_three_wrong(self):
        holders = [(3, 2), (8, 4), (14, 1)]
        for paper in (
            ("loft", "room", holders), ("top", "room", holders), ("inn", "room", holders), ("nobody", "room", holders),
            ("", "room", holders), ("Mill", "room", holders), ("room", "room", holders),
            ("mill", "coin", holders), ("mill", "hand", holders), ("mill", "gold", holders), ("mill", "", holders),
            ("mill", "mill", holders), ("room", "mill", holders),
            ("mill", "room", []), ("mill", "room", holders[:2]), ("mill", "room", holders[1:]),
            ("mill", "room", holders + [(15, 1)]), ("mill", "room", holders + holders[2:]),
            ("mill", "room", holders[::-1]), ("mill", "room", [(3, 2), (8, 5), (14, 1)]),
            ("mill", "room", [(3, 2), (9, 4), (14, 1)]), ("mill", "room", [(3, 2), (8, 4), (14, 1), (2, 3)]),
            ("mill", "room", [(3, 2), (5, 0), (8, 4), (14, 1)]),
        ):
            with self.subTest(paper=paper):
                self.assertFalse(self.is_right(paper))

    def test_a_later_place_that_lacks_room_too(self):
        tree, holds, asked = houses(), some_holds(), {"room": 30, "coin": 40}
        self.assertEqual(reason(tree, holds, "mill", asked, 0, False)[:2], ("mill", "coin"))
        for at in ("mill", "top"):
            for ware in ("coin", "room"):
                paper = (at, ware, taking(tree, holds, at, ware))
                right = is_reason(tree, holds, "mill", asked, 0, False, paper)
                self.assertEqual(right, (at, ware) == ("mill", "coin"))

    def test_a_place_that_does_not_lack_room(self):
        self.assertFalse(self.is_right(("mill", "room", [(3, 2), (8, 4), (14, 1)]), asked={"room": 8}))
        self.assertFalse(self.is_right(("mill", "coin", [(3, 1), (5, 2)]), asked={"room": 9, "coin": 1}))

    def test_a_place_beneath_or_beside_the_line(self):
        holds = [Hold(1, "loft", {"room": 8}, 0, None), Hold(2, "bar", {"room": 9}, 0, None)]
        self.assertFalse(self.is_right(("loft", "room", [(1, 8)]), asked={"room": 1}, holds=holds))
        self.assertFalse(self.is_right(("bar", "room", [(2, 9)]), asked={"room": 1}, holds=holds))

    def test_holders_that_are_not_fixed(self):
        everybody, fast = [(3, 2), (8, 4), (14, 1)], [(8, 4), (14, 1)]
        for rank, sure, right in ((0, False, everybody), (5, False, fast), (0, True, [(14, 1)])):
            asked = {"room": 16 - sum(part for number, part in right)}
            for holders in (everybody, fast, [(14, 1)]):
                answer = self.is_right(("mill", "room", holders), rank, sure, asked=asked)
                self.assertEqual(answer, holders == right)

    def test_the_paper_stays_as_it_is(self):
        paper = ("mill", "room", [(3, 2), (8, 4), (14, 1)])
        self.is_right(paper)
        self.assertEqual(paper, ("mill", "room", [(3, 2), (8, 4), (14, 1)]))


class Most(unittest.TestCase):
    def test_none_some_and_all_of_the_room_taken(self):
        tree = houses()
        for taken, left in ((0, 8), (1, 7), (7, 1), (8, 0), (9, 0), (50, 0), (10 ** 30, 0)):
            holds = [Hold(1, "loft", {"room": taken}, 0, None)] if taken else []
            with self.subTest(taken=taken):
                self.assertEqual(most(tree, holds, "loft", "room", 0), left)

    def test_the_least_room_on_the_line(self):
        tree = houses()
        self.assertEqual(most(tree, [], "bin", "room", 0), 8)
        self.assertEqual(most(tree, [Hold(1, "mill", {"room": 9}, 0, None)], "bin", "room", 0), 6)
        self.assertEqual(most(tree, [Hold(1, "inn", {"room": 37}, 0, None)], "bin", "room", 0), 3)
        self.assertEqual(most(tree, [Hold(1, "inn", {"room": 41}, 0, None)], "bin", "room", 0), 0)
        self.assertEqual(most(tree, [Hold(1, "mill", {"coin": 9}, 0, None)], "bin", "room", 0), 8)

    def test_a_ware_that_a_limit_on_the_line_does_not_name(self):
        self.assertEqual(most(houses(), [], "bin", "coin", 9), 0)

    def test_ranks(self):
        holds = [Loan(1, "loft", {"room": 3}, 4, None), Loan(2, "mill", {"room": 12}, 7, None)]
        for rank, left in ((0, 0), (4, 0), (5, 3), (7, 3), (8, 8), (9, 8)):
            with self.subTest(rank=rank):
                self.assertEqual(most(houses(), holds, "loft", "room", rank), left)

    def test_promised_holds_of_any_rank_stay(self):
        # Not sure: where it were, the loan would be no hindrance.
        holds = [Hold(1, "loft", {"room": 3}, 0, None), Loan(2, "loft", {"room": 2}, 9, None)]
        self.assertEqual(most(houses(), holds, "loft", "room", 9), 3)


class Bars(unittest.TestCase):
    def test_an_exact_match_has_no_bar_and_one_piece_more_has_one(self):
        # mill uses 7 rooms, of which inn has 15 left and bar has 4.
        tree, holds = houses(), some_holds()
        self.assertIsNone(bar(tree, holds, "mill", "inn"))
        self.assertEqual(bar(tree, holds, "mill", "bar"), ("bar", "room", [(13, 5)]))
        self.assertIsNone(bar(tree, holds[:3] + holds[4:], "mill", "bar"))
        more = [Loan(1, "bar", {"room": 1}, 0, None)] + holds[:3] + holds[4:]
        self.assertIsNone(bar(tree, more, "mill", "bar"))
        more = [Loan(1, "bar", {"room": 2}, 0, None)] + holds[:3] + holds[4:]
        self.assertEqual(bar(tree, more, "mill", "bar"), ("bar", "room", [(1, 2), (13, 5)]))

    def test_an_elder_on_the_houses_own_line(self):
        # Everything is beyond every limit; nothing is raised by such a move.
        holds = [Hold(1, name, {"room": 999, "coin": 999}, 0, None) for name in houses().names()]
        for name, elder in (("bin", "mill"), ("bin", "top"), ("loft", "top"), ("bar", "top"), ("bin", "loft")):
            self.assertIsNone(bar(houses(), holds, name, elder))

    def test_new_elders_alone_are_looked_at(self):
        # top is beyond its limit, but has the moved house beneath it already.
        holds = [Hold(1, "top", {"room": 999}, 0, None), Hold(2, "bar", {"room": 1}, 0, None)]
        self.assertIsNone(bar(houses(), holds, "bar", "mill"))
        self.assertIsNone(bar(houses(), holds, "bar", "bin"))

    def test_wares_that_the_moved_house_has_alone(self):
        holds = [Hold(1, "mill", {"room": 999}, 0, None), Hold(2, "bar", {"coin": 6}, 0, None)]
        self.assertIsNone(bar(houses(), holds, "bar", "mill"))
        self.assertIsNone(bar(houses(), holds[:1], "bar", "mill"))
        self.assertEqual(bar(houses(), holds, "bar", "loft"), ("loft", "coin", []))

    def test_the_first_new_elder_goes_ahead_of_the_alphabet(self):
        tree = houses()
        # At bin only room lacks, further up coin does.
        for rooms, place in ((8, ("bin", "room", [(2, 1)])), (7, ("loft", "coin", []))):
            holds = [Loan(1, "bar", {"coin": 4, "room": rooms}, 0, None), Loan(2, "bin", {"room": 1}, 0, None)]
            self.assertEqual(bar(tree, holds, "bar", "bin"), place)

    def test_the_first_ware_there(self):
        for amounts in ({"hand": 10, "coin": 7, "room": 16}, {"room": 16, "coin": 7, "hand": 10}):
            self.assertEqual(bar(houses(), [Loan(1, "bar", amounts, 0, None)], "bar", "mill"), ("mill", "coin", []))
        amounts = {"room": 16, "coin": 6, "hand": 10}
        self.assertEqual(bar(houses(), [Loan(1, "bar", amounts, 0, None)], "bar", "mill"), ("mill", "hand", []))

    def test_all_holds_there_count_and_are_told_but_not_the_moved_ones(self):
        holds = [
            Loan(1, "bar", {"room": 5}, 9, None), Loan(2, "mill", {"room": 4}, 0, 1), Hold(3, "bin", {"room": 3}, 0, 1),
            Loan(4, "inn", {"room": 3}, 0, None), Loan(6, "loft", {"room": 1}, 9, None),
            Hold(7, "bar", {"room": 3}, 1, 1),
        ]
        self.assertEqual(bar(houses(), holds, "bar", "mill"), ("mill", "room", [(2, 4), (3, 3), (6, 1)]))
        self.assertIsNone(bar(houses(), holds[1:], "bar", "mill"))

    def test_beneath_the_moved_house(self):
        holds = [Loan(1, "bar", {"room": 16}, 0, None)]
        self.assertEqual(bar(houses(), holds, "inn", "mill"), ("mill", "room", []))

    def test_without_holds(self):
        self.assertIsNone(bar(houses(), [], "inn", "bin"))

    def test_papers(self):
        tree, holds = houses(), some_holds()
        holders = [(3, 2), (8, 4), (14, 1)]
        many = holds + [Hold(20, "bar", {"room": 4}, 0, None)]
        self.assertEqual(bar(tree, many, "bar", "mill"), ("mill", "coin", [(3, 1), (5, 2)]))
        self.assertIs(is_bar(tree, many, "bar", "mill", ("mill", "coin", [(3, 1), (5, 2)])), True)
        for paper in (
            ("mill", "coin", []), ("mill", "coin", [(3, 1)]), ("mill", "coin", [(5, 2), (3, 1)]),
            ("mill", "coin", [(3, 1), (5, 3)]), ("mill", "coin", [(3, 1), (5, 2), (13, 7)]),
            ("top", "coin", [(3, 1), (5, 2)]),
            ("nobody", "coin", [(3, 1), (5, 2)]), ("mill", "gold", [(3, 1), (5, 2)]), ("mill", "room", holders),
            ("mill", "hand", []), ("loft", "coin", [(5, 2)]), ("inn", "coin", [(13, 7)]),
        ):
            with self.subTest(paper=paper):
                self.assertIs(is_bar(tree, many, "bar", "mill", paper), False)

    def test_papers_where_there_is_no_bar(self):
        tree, holds = houses(), some_holds()
        for paper in (("inn", "room", [(13, 5)]), ("top", "room", []), ("inn", "coin", [(13, 7)])):
            self.assertIs(is_bar(tree, holds, "mill", "inn", paper), False)

    def test_a_later_elder_that_is_barred_too(self):
        tree = houses()
        holds = [Hold(1, "bar", {"room": 12}, 0, None), Hold(2, "mill", {"room": 9}, 0, None)]
        self.assertEqual(bar(tree, holds, "bar", "loft"), ("loft", "room", []))
        self.assertFalse(is_bar(tree, holds, "bar", "loft", ("mill", "room", [(2, 9)])))
        self.assertTrue(is_bar(tree, holds, "bar", "loft", ("loft", "room", [])))

    def test_nothing_handed_in_is_changed_and_the_list_is_new(self):
        tree, holds = houses(), some_holds()
        before = (told(holds), tree_told(tree))
        bar(tree, holds, "mill", "bar")[2].clear()
        self.assertEqual((told(holds), tree_told(tree)), before)
        self.assertEqual(bar(tree, holds, "mill", "bar"), ("bar", "room", [(13, 5)]))


class Rows(unittest.TestCase):
    """Drawn trees and holds, held against sums of the test's own over plain dicts and tuples."""

    WARES = ["ale", "bread", "coin"]

    def draw(self, draws):
        self.elders, self.caps = {"a": None}, {"a": self.draw_amounts(draws, 40)}
        tree = Tree(self.WARES, "a", {}, self.caps["a"])
        for name in "bcdefgh"[:draws.randint(0, 7)]:
            self.elders[name], self.caps[name] = draws.choice(sorted(self.elders)), self.draw_amounts(draws, 25)
            tree.found(name, self.elders[name], {}, self.caps[name])
        self.rows, holds, number = [], [], 0
        for time in range(draws.randint(0, 9)):
            number += draws.randint(1, 3)
            sure, house, rank = draws.random() < 0.4, draws.choice(sorted(self.elders)), draws.randint(0, 9)
            amounts = self.draw_amounts(draws, 7) or {"ale": 1}
            self.rows.append((number, house, amounts, rank, sure))
            holds.append((Hold if sure else Loan)(number, house, amounts, rank, None))
        return tree, holds

    def draw_amounts(self, draws, most_pieces):
        drawn = {ware: draws.randint(0, most_pieces) for ware in draws.sample(self.WARES, draws.randint(1, 3))}
        return {ware: drawn[ware] for ware in drawn if drawn[ware]}

    def line(self, name):
        return [] if name is None else [name] + self.line(self.elders[name])

    def parts(self, at, ware, fast=lambda rank, sure: True):
        return [(number, amounts[ware]) for number, house, amounts, rank, sure in self.rows
                if ware in amounts and at in self.line(house) and fast(rank, sure)]

    def lack(self, line, amounts, fast):
        for at in line:
            for ware in sorted(amounts):
                parts = self.parts(at, ware, fast)
                if sum(part for number, part in parts) + amounts[ware] > self.caps[at].get(ware, 0):
                    return (at, ware, parts)
        return None

    def test_rows(self):
        lacks = 0
        for seed in range(400):
            draws = random.Random(seed)
            tree, holds = self.draw(draws)
            for time in range(6):
                house, amounts = draws.choice(sorted(self.elders)), self.draw_amounts(draws, 9) or {"coin": 1}
                rank, sure, ware = draws.randint(0, 9), draws.random() < 0.5, draws.choice(self.WARES)

                def fast(own, promised):
                    return promised or (not sure and own >= rank)

                with self.subTest(seed=seed, time=time):
                    self.assertEqual(taking(tree, holds, house, ware), self.parts(house, ware))
                    expected = self.lack(self.line(house), amounts, fast)
                    lacks += expected is not None
                    self.assertEqual(reason(tree, holds, house, amounts, rank, sure), expected)
                    for at in list(self.elders) + ["nobody"]:
                        for other in self.WARES + ["gold"]:
                            paper = (at, other, self.parts(at, other, fast) if at in self.elders else [])
                            answer = is_reason(tree, holds, house, amounts, rank, sure, paper)
                            self.assertEqual(answer, paper == expected)
        self.assertGreater(lacks, 400)

    def test_the_most_itself_has_no_reason_and_one_more_has(self):
        seen = set()
        for seed in range(400):
            draws = random.Random(seed)
            tree, holds = self.draw(draws)
            for house in sorted(self.elders):
                ware, rank = draws.choice(self.WARES), draws.randint(0, 9)
                greatest = most(tree, holds, house, ware, rank)
                seen.add(greatest)
                with self.subTest(seed=seed, house=house):
                    self.assertGreaterEqual(greatest, 0)
                    if greatest:
                        self.assertIsNone(reason(tree, holds, house, {ware: greatest}, rank, False))
                    self.assertIsNotNone(reason(tree, holds, house, {ware: greatest + 1}, rank, False))
        self.assertGreater(len(seen), 10)

    def test_bars(self):
        bars, ways = 0, 0
        for seed in range(400):
            draws = random.Random(seed)
            tree, holds = self.draw(draws)
            for house in sorted(self.elders):
                for elder in sorted(self.elders):
                    if house not in self.line(elder):
                        new = [at for at in self.line(elder) if at not in self.line(house)]
                        sums = {ware: sum(part for number, part in self.parts(house, ware)) for ware in self.WARES}
                        moved = {ware: sums[ware] for ware in sums if sums[ware]}
                        expected = self.lack(new, moved, lambda rank, sure: True)
                        bars, ways = bars + (expected is not None), ways + 1
                        with self.subTest(seed=seed, house=house, elder=elder):
                            self.assertEqual(bar(tree, holds, house, elder), expected)
                            if expected is not None:
                                self.assertTrue(is_bar(tree, holds, house, elder, expected))
        self.assertGreater(bars, 300)
        self.assertGreater(ways, bars + 300)


if __name__ == "__main__":
    unittest.main()
