"""Points 61 to 66: rooms, and their even shares by weights."""

import copy
import itertools
import random
import unittest
from fractions import Fraction

from quotatree.even import even, is_even, rooms_of, rounds
from quotatree.holds import Hold, Loan
from quotatree.tree import Tree

WEIGHTS = {"top": 1, "mill": 2, "loft": 1, "bin": 3, "inn": 2}


def houses():
    """top above mill (above loft and bin) and inn."""
    tree = Tree(["room", "coin"], "top", {}, {"room": 20, "coin": 9}, WEIGHTS["top"])
    tree.found("mill", "top", {}, {"room": 6, "coin": 9}, WEIGHTS["mill"])
    tree.found("loft", "mill", {}, {"room": 10}, WEIGHTS["loft"])
    tree.found("bin", "mill", {}, {"room": 3, "coin": 9}, WEIGHTS["bin"])
    tree.found("inn", "top", {}, {"room": 50, "coin": 9}, WEIGHTS["inn"])
    return tree


def rooms(**others):
    told = {"top": 20, "mill": 6, "loft": 10, "bin": 3, "inn": 50}
    told.update(others)
    return told


# With these rooms and wants: mill has its want, bin is full, then mill is, then top is.
WANTS = {"loft": 9, "bin": 9, "inn": 40, "mill": 1}
ROUNDS = [((1, 2), ["mill"]), ((1, 1), ["bin"]), ((2, 1), ["loft"]), ((7, 1), ["inn"])]
SHARES = [("bin", (3, 1), "bin"), ("inn", (14, 1), "top"), ("loft", (2, 1), "mill"), ("mill", (1, 1), None)]


class Rooms(unittest.TestCase):
    def test_without_holds(self):
        self.assertEqual(rooms_of(houses(), [], "room"), {"top": 20, "mill": 6, "loft": 10, "bin": 3, "inn": 50})
        # loft's limit does not name coin.
        self.assertEqual(rooms_of(houses(), [], "coin"), {"top": 9, "mill": 9, "loft": 0, "bin": 9, "inn": 9})

    def test_beside_holds(self):
        holds = [
            Hold(1, "loft", {"room": 2}, 0, None), Loan(3, "mill", {"room": 1, "coin": 9}, 0, None),
            Loan(4, "inn", {"room": 5}, 9, 1), Hold(6, "top", {"room": 4}, 0, None),
        ]
        self.assertEqual(rooms_of(houses(), holds, "room"), {"top": 8, "mill": 3, "loft": 8, "bin": 3, "inn": 45})
        self.assertEqual(rooms_of(houses(), holds, "coin"), {"top": 0, "mill": 0, "loft": 0, "bin": 9, "inn": 9})

    def test_below_nought_where_holds_come_beyond_a_limit(self):
        holds = [Loan(1, "loft", {"room": 11, "coin": 1}, 0, None), Loan(2, "inn", {"room": 10 ** 30}, 0, None)]
        self.assertEqual(
            rooms_of(houses(), holds, "room"),
            {"top": 9 - 10 ** 30, "mill": -5, "loft": -1, "bin": 3, "inn": 50 - 10 ** 30})
        self.assertEqual(rooms_of(houses(), holds, "coin"), {"top": 8, "mill": 8, "loft": -1, "bin": 9, "inn": 9})

    def test_a_lone_house(self):
        self.assertEqual(rooms_of(Tree(["coin"], "top", {}, {"coin": 7}), [], "coin"), {"top": 7})

    def test_the_dict_is_the_askers_own(self):
        tree, holds = houses(), [Hold(1, "loft", {"room": 2}, 0, None)]
        rooms_of(tree, holds, "room").clear()
        self.assertEqual(rooms_of(tree, holds, "room")["loft"], 8)
        self.assertEqual((holds[0].amounts, tree.cap_of("loft")), ({"room": 2}, {"room": 10}))


class Rounds(unittest.TestCase):
    def test_nobody_wants(self):
        self.assertEqual(rounds(houses(), rooms(), {}), [])
        self.assertEqual(even(houses(), rooms(), {}), [])
        self.assertIs(is_even(houses(), rooms(), {}, []), True)

    def test_several_floors(self):
        self.assertEqual(rounds(houses(), rooms(), WANTS), ROUNDS)
        self.assertEqual(even(houses(), rooms(), WANTS), SHARES)

    def test_the_order_of_the_wants_is_no_matter(self):
        for names in itertools.permutations(WANTS):
            wants = {name: WANTS[name] for name in names}
            self.assertEqual(rounds(houses(), rooms(), wants), ROUNDS)
            self.assertEqual(even(houses(), rooms(), wants), SHARES)

    def test_all_have_what_they_want(self):
        wide = rooms(top=100, mill=100)
        self.assertEqual(rounds(houses(), wide, {"loft": 5, "inn": 4}), [((2, 1), ["inn"]), ((5, 1), ["loft"])])
        self.assertEqual(even(houses(), wide, {"loft": 5, "inn": 4}), [("inn", (4, 1), None), ("loft", (5, 1), None)])

    def test_wants_of_nought(self):
        self.assertEqual(rounds(houses(), rooms(), {"loft": 0, "inn": 0}), [((0, 1), ["inn", "loft"])])
        self.assertEqual(rounds(houses(), rooms(), {"loft": 0, "inn": 4}), [((0, 1), ["loft"]), ((2, 1), ["inn"])])
        self.assertEqual(even(houses(), rooms(), {"loft": 0, "inn": 4}), [
            ("inn", (4, 1), None), ("loft", (0, 1), None),
        ])

    def test_rooms_of_nought(self):
        none = rooms(mill=0)
        wants = {"loft": 3, "bin": 0, "inn": 4}
        self.assertEqual(rounds(houses(), none, wants), [((0, 1), ["bin", "loft"]), ((2, 1), ["inn"])])
        self.assertEqual(
            even(houses(), none, wants), [("bin", (0, 1), None), ("inn", (4, 1), None), ("loft", (0, 1), "mill")])
        self.assertEqual(even(houses(), rooms(top=0), {"loft": 3}), [("loft", (0, 1), "top")])
        self.assertEqual(even(houses(), rooms(loft=0), {"loft": 0}), [("loft", (0, 1), None)])

    def test_great_rooms_and_wants(self):
        great = 10 ** 30
        vast = {name: great ** 3 for name in WEIGHTS}
        wants = {"loft": great, "bin": great}
        self.assertEqual(rounds(houses(), vast, wants), [((great, 3), ["bin"]), ((great, 1), ["loft"])])
        vast["mill"] = great + 1
        self.assertEqual(rounds(houses(), vast, wants), [((great + 1, 4), ["bin", "loft"])])
        self.assertEqual(even(houses(), vast, wants), [
            ("bin", (3 * (great + 1), 4), "mill"), ("loft", (great + 1, 4), "mill"),
        ])

    def test_shares_that_are_no_whole_numbers(self):
        self.assertEqual(rounds(houses(), rooms(top=7, mill=9), {"loft": 9, "inn": 99}), [((7, 3), ["inn", "loft"])])
        self.assertEqual(even(houses(), rooms(top=7, mill=9), {"loft": 9, "inn": 99}), [
            ("inn", (14, 3), "top"), ("loft", (7, 3), "top"),
        ])

    def test_two_houses_that_become_full_in_the_same_round(self):
        wants = {"loft": 9, "bin": 9, "mill": 9, "inn": 40}
        self.assertEqual(rounds(houses(), rooms(), wants), [((1, 1), ["bin", "loft", "mill"]), ((7, 1), ["inn"])])
        self.assertEqual(even(houses(), rooms(), wants), [
            ("bin", (3, 1), "bin"), ("inn", (14, 1), "top"), ("loft", (1, 1), "mill"), ("mill", (2, 1), "mill"),
        ])
        apart = rooms(bin=6, inn=4, mill=50)
        self.assertEqual(rounds(houses(), apart, {"bin": 9, "inn": 9}), [((2, 1), ["bin", "inn"])])
        self.assertEqual(even(houses(), apart, {"bin": 9, "inn": 9}), [("bin", (6, 1), "bin"), ("inn", (4, 1), "inn")])

    def test_a_want_and_a_full_house_in_the_same_round(self):
        self.assertEqual(rounds(houses(), rooms(), {"bin": 3, "inn": 2}), [((1, 1), ["bin", "inn"])])
        self.assertEqual(even(houses(), rooms(), {"bin": 3, "inn": 2}), [("bin", (3, 1), None), ("inn", (2, 1), None)])

    def test_several_full_houses_on_one_line(self):
        full = rooms(bin=1, mill=4, top=22)
        wants = {"bin": 99, "loft": 99, "inn": 99, "top": 99}
        self.assertEqual(rounds(houses(), full, wants), [
            ((1, 3), ["bin"]), ((3, 1), ["loft"]), ((6, 1), ["inn", "top"]),
        ])
        # bin, mill and top are full: the first one on the line is the paper.
        self.assertEqual(even(houses(), full, wants), [
            ("bin", (1, 1), "bin"), ("inn", (12, 1), "top"), ("loft", (3, 1), "mill"), ("top", (6, 1), "top"),
        ])
        self.assertEqual(even(houses(), rooms(loft=3, mill=3, top=3), {"loft": 4}), [("loft", (3, 1), "loft")])
        self.assertEqual(even(houses(), rooms(loft=4, mill=3, top=3), {"loft": 4}), [("loft", (3, 1), "mill")])
        self.assertEqual(even(houses(), rooms(loft=4, mill=4, top=3), {"loft": 4}), [("loft", (3, 1), "top")])

    def test_an_elder_that_wants_shares_its_own_room_with_those_beneath(self):
        self.assertEqual(even(houses(), rooms(), {"mill": 9}), [("mill", (6, 1), "mill")])
        self.assertEqual(even(houses(), rooms(), {"mill": 9, "loft": 9}), [
            ("loft", (2, 1), "mill"), ("mill", (4, 1), "mill"),
        ])

    def test_a_full_house_beside_the_line_is_no_paper(self):
        self.assertEqual(even(houses(), rooms(inn=2, top=9, mill=9), {"inn": 9, "loft": 9}), [
            ("inn", (2, 1), "inn"), ("loft", (7, 1), "top"),
        ])

    def test_equal_weights_where_they_are_left_out(self):
        tree = Tree(["coin"], "top", {}, {"coin": 9})
        tree.found("inn", "top", {}, {"coin": 9})
        self.assertEqual(even(tree, {"top": 5, "inn": 9}, {"top": 9, "inn": 9}), [
            ("inn", (5, 2), "top"), ("top", (5, 2), "top"),
        ])

    def test_what_is_told_is_the_askers_own_and_nothing_is_changed(self):
        tree, some_rooms, wants = houses(), rooms(), dict(WANTS)
        for told in (rounds(tree, some_rooms, wants), even(tree, some_rooms, wants)):
            told.clear()
        for level, names in rounds(tree, some_rooms, wants):
            names.clear()
        self.assertEqual((some_rooms, wants), (rooms(), WANTS))
        self.assertEqual(list(wants), list(WANTS))
        self.assertEqual(rounds(tree, some_rooms, wants), ROUNDS)
        self.assertEqual(even(tree, some_rooms, wants), SHARES)


class Weights(unittest.TestCase):
    def test_a_function_in_the_place_of_the_trees_weights(self):
        wants = {"loft": 9, "bin": 9}
        self.assertEqual(rounds(houses(), rooms(), wants, lambda name: 1), [((3, 1), ["bin", "loft"])])
        by_name = {"loft": 1000, "bin": 1}
        self.assertEqual(even(houses(), rooms(), wants, lambda name: by_name[name]), [
            ("bin", (6, 1001), "mill"), ("loft", (6000, 1001), "mill"),
        ])
        self.assertEqual(even(houses(), rooms(), wants), [("bin", (3, 1), "bin"), ("loft", (3, 1), "mill")])

    def test_none_in_its_place(self):
        self.assertEqual(rounds(houses(), rooms(), WANTS, None), ROUNDS)
        self.assertEqual(even(houses(), rooms(), WANTS, None), SHARES)
        self.assertTrue(is_even(houses(), rooms(), WANTS, SHARES, None))

    def test_by_keyword(self):
        wants = {"loft": 9, "bin": 9}
        for does in (rounds, even):
            self.assertEqual(
                does(houses(), rooms(), wants, weigh=lambda name: 7), does(houses(), rooms(), wants, lambda name: 7))
        dealt = even(houses(), rooms(), wants, lambda name: 7)
        self.assertTrue(is_even(houses(), rooms(), wants, dealt, weigh=lambda name: 7))

    def test_it_is_called_with_names_that_are_in_the_wants_alone(self):
        called = []

        def weigh(name):
            called.append(name)
            return len(name)

        wants = {"loft": 9, "inn": 0, "bin": 2}
        dealt = even(houses(), rooms(), wants, weigh)
        rounds(houses(), rooms(), wants, weigh)
        self.assertTrue(is_even(houses(), rooms(), wants, dealt, weigh))
        self.assertEqual(set(called), set(wants))
        # Nor with names and papers of what is tested.
        for wrong in (
            [("nobody", (0, 1), None)] + dealt, dealt + [("top", (0, 1), None)], [("mill", (0, 1), "mill")],
            [(name, share, "nobody") for name, share, paper in dealt],
            [(name, share, "mill") for name, share, paper in dealt],
        ):
            self.assertFalse(is_even(houses(), rooms(), wants, wrong, weigh))
        self.assertEqual(set(called), set(wants))
        called.clear()
        self.assertEqual((rounds(houses(), rooms(), {}, weigh), even(houses(), rooms(), {}, weigh)), ([], []))
        self.assertFalse(is_even(houses(), rooms(), {}, dealt, weigh))
        self.assertEqual(called, [])

    def test_the_papers_go_by_the_functions_weights(self):
        wants = {"loft": 9, "bin": 9}
        dealt = [("bin", (3, 1), "mill"), ("loft", (3, 1), "mill")]
        self.assertTrue(is_even(houses(), rooms(bin=4), wants, dealt, lambda name: 5))
        self.assertFalse(is_even(houses(), rooms(bin=4), wants, dealt))


class Tested(unittest.TestCase):
    def assert_let_by(self, expected, dealt, some_rooms=None, wants=None):
        before = copy.deepcopy(dealt)
        answer = is_even(houses(), some_rooms or rooms(), wants or WANTS, dealt)
        self.assertIs(answer, expected)
        self.assertEqual(dealt, before)

    def test_what_even_tells(self):
        self.assert_let_by(True, SHARES)

    def test_names(self):
        one, two, three, four = SHARES
        for dealt in (
            [], [one, two, three], [two, three, four], [one, one, two, three, four], [one, two, three, four, four],
            [four, three, two, one], [one, three, two, four], [two, one, three, four],
            [one, two, three, four, ("top", (0, 1), "top")], [one, two, three, ("mull", (1, 1), None)],
            [one, two, three, ("nobody", (1, 1), None)], [one, two, three, ("", (1, 1), None)],
            [one, two, three, four, ("nobody", (0, 1), None)], [("top", (3, 1), "top"), two, three, four],
        ):
            with self.subTest(dealt=dealt):
                self.assert_let_by(False, dealt)

    def test_a_share_below_nought(self):
        # mill would be full by it, and nothing else be wrong.
        wants = {"loft": 9, "mill": 0}
        self.assert_let_by(True, [("loft", (6, 1), "mill"), ("mill", (0, 1), None)], wants=wants)
        self.assert_let_by(False, [("loft", (7, 1), "mill"), ("mill", (-1, 1), "mill")], wants=wants)
        self.assert_let_by(False, [("loft", (-1, 2), None)], wants={"loft": 0})
        self.assert_let_by(False, [("inn", (8, 1), None), ("loft", (-1, 1), "mill")], wants={"inn": 8, "loft": 9})

    def test_a_share_above_the_want(self):
        wants = {"loft": 2}
        self.assert_let_by(True, [("loft", (2, 1), None)], wants=wants)
        self.assert_let_by(False, [("loft", (3, 1), None)], wants=wants)
        # Full, and nobody has more by weight.
        self.assert_let_by(False, [("loft", (6, 1), "mill")], wants=wants)
        self.assert_let_by(False, [("loft", (5, 2), "mill")], rooms(mill=2), wants)

    def test_a_share_beyond_a_room(self):
        self.assert_let_by(False, [("loft", (9, 1), None)], wants={"loft": 9})
        self.assert_let_by(True, [("loft", (9, 1), None)], rooms(mill=9), {"loft": 9})
        self.assert_let_by(False, [("inn", (21, 1), None)], wants={"inn": 21})
        self.assert_let_by(False, [("bin", (7, 2), None), ("loft", (5, 2), "mill")], wants={"loft": 9, "bin": 9})
        # bin and mill are full just so, top is not by half a piece.
        dealt = [("bin", (3, 1), "bin"), ("inn", (29, 2), None), ("loft", (3, 1), "mill")]
        self.assert_let_by(False, dealt, rooms(inn=15), {"bin": 9, "inn": 15, "loft": 9})

    def test_none_without_the_want(self):
        for place in range(3):
            dealt = list(SHARES)
            dealt[place] = dealt[place][:2] + (None,)
            with self.subTest(dealt=dealt):
                self.assert_let_by(False, dealt)

    def test_papers_that_are_not_right(self):
        for place, papers in (
            # mill is full, but loft has more by weight beneath it; top is full, but inn has more.
            (0, ("mill", "top", "inn", "loft", "nobody", "", "Bin", "room")),
            (1, ("inn", "mill", "bin", "nobody", "")),
            # loft isn't full, bin is not on the line, at top another one has more.
            (2, ("loft", "bin", "inn", "top", "nobody", "")),
            (3, ("mill", "bin", "top", "nobody", "")),
        ):
            for paper in papers:
                dealt = list(SHARES)
                dealt[place] = dealt[place][:2] + (paper,)
                with self.subTest(dealt=dealt):
                    self.assert_let_by(False, dealt)

    def test_another_right_paper(self):
        full, wants = rooms(loft=3, mill=3, top=3), {"loft": 4}
        for paper, right in (("loft", True), ("mill", True), ("top", True), ("bin", False), (None, False)):
            self.assert_let_by(right, [("loft", (3, 1), paper)], full, wants)
        # As much by weight is not more.
        wants = {"loft": 9, "bin": 9, "mill": 9}
        for paper in ("bin", "mill"):
            dealt = [("bin", (3, 1), paper), ("loft", (1, 1), "mill"), ("mill", (2, 1), "mill")]
            self.assert_let_by(True, dealt, None, wants)

    def test_a_text_where_the_share_is_the_want(self):
        wants = {"bin": 3, "loft": 9}
        self.assert_let_by(True, [("bin", (3, 1), None), ("loft", (3, 1), "mill")], None, wants)
        self.assert_let_by(True, [("bin", (3, 1), "bin"), ("loft", (3, 1), "mill")], None, wants)
        self.assert_let_by(False, [("bin", (3, 1), "mill"), ("loft", (3, 1), "mill")], None, wants)
        self.assert_let_by(False, [("bin", (3, 1), "top"), ("loft", (3, 1), "mill")], None, wants)

    def test_less_than_the_room_is_not_full(self):
        self.assert_let_by(False, [("loft", (5, 1), "mill")], wants={"loft": 9})
        self.assert_let_by(False, [("loft", (11, 2), "mill")], wants={"loft": 9})
        self.assert_let_by(True, [("loft", (6, 1), "mill")], wants={"loft": 9})

    def test_full_but_another_one_has_more_by_weight(self):
        wants = {"loft": 9, "bin": 9}
        self.assert_let_by(False, [("bin", (2, 1), "mill"), ("loft", (4, 1), "mill")], None, wants)
        self.assert_let_by(False, [("bin", (1, 1), "mill"), ("loft", (5, 1), "mill")], None, wants)
        self.assert_let_by(True, [("bin", (9, 2), "mill"), ("loft", (3, 2), "mill")], rooms(bin=5), wants)
        self.assert_let_by(False, [("bin", (4, 1), "mill"), ("loft", (2, 1), "mill")], rooms(bin=5), wants)

    def test_wants_of_nought(self):
        self.assert_let_by(True, [("loft", (0, 1), None)], wants={"loft": 0})
        self.assert_let_by(False, [("loft", (0, 1), "mill")], wants={"loft": 0})
        self.assert_let_by(True, [("loft", (0, 1), "mill")], rooms(mill=0), {"loft": 0})
        self.assert_let_by(True, [("loft", (0, 1), "mill")], rooms(mill=0), {"loft": 5})
        self.assert_let_by(False, [("loft", (0, 1), None)], rooms(mill=0), {"loft": 5})


class Model:
    """The words of 62 to 65 with Python's own fractions, over plain dicts."""

    def __init__(self, elders, rooms, wants, weights):
        self.elders, self.rooms, self.wants, self.weights = elders, rooms, wants, weights

    def line(self, name):
        return [] if name is None else [name] + self.line(self.elders[name])

    def beneath(self, house):
        return [name for name in sorted(self.wants) if house in self.line(name)]

    def rounds(self):
        shares, told = {}, []
        while len(shares) < len(self.wants):
            left = [name for name in sorted(self.wants) if name not in shares]
            fills = {}
            for house in self.elders:
                load = sum(self.weights[name] for name in self.beneath(house) if name in left)
                if load:
                    dealt = sum(shares[name] for name in self.beneath(house) if name in shares)
                    fills[house] = (self.rooms[house] - dealt) / Fraction(load)
            goals = {name: Fraction(self.wants[name], self.weights[name]) for name in left}
            level = min(list(fills.values()) + list(goals.values()))
            names = [name for name in left
                     if goals[name] == level or any(fills[house] == level for house in self.line(name))]
            shares.update({name: level * self.weights[name] for name in names})
            told.append((level, names))
        return told, shares

    def is_feasible(self, shares):
        return all(0 <= shares[name] <= self.wants[name] for name in shares) and all(
            sum(shares[name] for name in self.beneath(house)) <= self.rooms[house] for house in self.elders)

    def right_papers(self, shares, name):
        papers = [None] if shares[name] == self.wants[name] else []
        for house in self.line(name):
            others = self.beneath(house)
            if sum(shares[other] for other in others) == self.rooms[house] and not any(
                    shares[other] / self.weights[other] > shares[name] / self.weights[name] for other in others):
                papers.append(house)
        return papers

    def is_even(self, shares, papers):
        return self.is_feasible(shares) and all(papers[name] in self.right_papers(shares, name) for name in shares)


def pair(number):
    return (Fraction(number).numerator, Fraction(number).denominator)


class Rows(unittest.TestCase):
    """Drawn sharings, held against the model."""

    def draw(self, seed):
        draws = random.Random(seed)
        greatest = draws.choice((3, 12, 10 ** 30))
        elders = {"a": None}
        heavy = draws.choice((1, 3, 1000))
        tree = Tree(["coin"], "a", {}, {}, draws.randint(1, heavy))
        for name in "bcdefgh"[:draws.randint(0, 7)]:
            elders[name] = draws.choice(sorted(elders))
            tree.found(name, elders[name], {}, {}, draws.randint(1, heavy))
        some_rooms = {name: draws.choice((0, greatest, 3 * greatest, 3 * greatest)) for name in elders}
        some_rooms = {name: draws.randint(some_rooms[name] // 3, some_rooms[name]) for name in elders}
        wanting = draws.sample(sorted(elders), draws.randint(0, len(elders)))
        wants = {name: draws.choice((0, draws.randint(0, greatest), greatest)) for name in wanting}
        weigh, weights = None, {name: tree.weight_of(name) for name in wants}
        if draws.random() < 0.5:
            weights = {name: draws.randint(1, heavy) for name in wants}
            weigh = dict(weights).__getitem__
        return draws, tree, Model(elders, some_rooms, wants, weights), weigh

    def test_rounds_and_shares(self):
        for seed in range(400):
            draws, tree, model, weigh = self.draw(seed)
            levels, shares = model.rounds()
            with self.subTest(seed=seed):
                told = rounds(tree, model.rooms, model.wants, weigh)
                self.assertEqual(told, [(pair(level), names) for level, names in levels])
                steps = [Fraction(*level) for level, names in told]
                self.assertTrue(all(one < other for one, other in zip(steps, steps[1:])))
                self.assertEqual(sorted(name for level, names in told for name in names), sorted(model.wants))
                dealt = even(tree, model.rooms, model.wants, weigh)
                self.assertEqual([(name, share) for name, share, paper in dealt],
                                 [(name, pair(shares[name])) for name in sorted(shares)])
                self.assertEqual([paper for name, share, paper in dealt],
                                 [model.right_papers(shares, name)[0] for name in sorted(shares)])
                self.assertTrue(is_even(tree, model.rooms, model.wants, dealt, weigh))

    def other_shares(self, draws, model):
        shares = {}
        for name in draws.sample(sorted(model.wants), len(model.wants)):
            lefts = [model.rooms[house] - sum(shares.get(other, 0) for other in model.beneath(house))
                     for house in model.line(name)]
            shares[name] = min(lefts + [Fraction(model.wants[name])]) * Fraction(draws.randint(0, 4), 4)
        return shares

    def test_no_other_shares_are_let_by(self):
        tried = 0
        for seed in range(400):
            draws, tree, model, weigh = self.draw(seed)
            fair = model.rounds()[1]
            for time in range(4):
                shares = self.other_shares(draws, model)
                papers = {name: (model.right_papers(shares, name) or [model.elders[name]])[0] for name in shares}
                dealt = [(name, pair(shares[name]), papers[name]) for name in sorted(shares)]
                with self.subTest(seed=seed, time=time):
                    tried += shares != fair
                    self.assertEqual(is_even(tree, model.rooms, model.wants, dealt, weigh), shares == fair)
                    self.check_who_has_less(model, fair, shares)
        self.assertGreater(tried, 500)

    def check_who_has_less(self, model, fair, shares):
        """Point 66: where one has more than its even share, another one that has no more by weight has less."""
        for name in shares:
            if shares[name] > fair[name]:
                level = fair[name] / model.weights[name]
                self.assertTrue(any(
                    fair[other] / model.weights[other] <= level and shares[other] < fair[other] for other in shares))

    def test_other_papers_and_bent_shares(self):
        seen = [0, 0]
        for seed in range(400):
            draws, tree, model, weigh = self.draw(seed)
            for time in range(4):
                shares = model.rounds()[1]
                papers = {name: model.right_papers(shares, name)[-1] for name in shares}
                if shares and time > 0:
                    name = draws.choice(sorted(shares))
                    papers[name] = draws.choice([None, "nobody"] + sorted(model.elders))
                if shares and time > 2:
                    name = draws.choice(sorted(shares))
                    shares[name] += Fraction(draws.choice((-1, 1)), draws.choice((1, 2, 10 ** 9)))
                expected = model.is_even(shares, papers)
                seen[expected] += 1
                dealt = [(name, pair(shares[name]), papers[name]) for name in sorted(shares)]
                with self.subTest(seed=seed, time=time):
                    self.assertEqual(is_even(tree, model.rooms, model.wants, dealt, weigh), expected)
        self.assertGreater(min(seen), 300)


if __name__ == "__main__":
    unittest.main()
