"""Points 24 and 25: how houses are moved, and what holds behind any row of foundings and moves."""

import copy
import random
import unittest

from quotatree.errors import NoHouse, NoMove, NoPromise, TooDeep, TreeError
from quotatree.tree import Tree

NO_HOUSES = (
    None, True, False, 0, 1, -1, 10 ** 5000, "", "Top", "top ", "to", "topp", "nobody", "room", [], ["top"], (),
    ("top",), {}, {"top": 1}, {"top"}, 1.5, b"top", len, object(),
)
FULL = {"room": 1000, "coin": 1000}


def tree_of(houses, cap=None):
    """Each house as (name, elder), without promises, or as (name, elder, promise, limit)."""
    tree = Tree(["room", "coin"], "top", {}, dict(FULL) if cap is None else cap)
    for house in houses:
        tree.found(*(house if len(house) > 2 else house + ({}, dict(FULL))))
    return tree


def a_line(tree, elder, letters):
    for letter in letters:
        tree.found(letter, elder, {}, {})
        elder = letter


def all_told(tree):
    # A copy, so that a list or dict of the tree's own among them would not change along with the tree.
    return copy.deepcopy([
        (
            name, tree.elder_of(name), tree.promise_of(name), tree.cap_of(name), tree.weight_of(name), tree.kids(name),
            tree.line(name), tree.beneath(name), tree.promised_beneath(name),
        )
        for name in tree.names()
    ])


class MoveCase(unittest.TestCase):
    def assert_refused(self, tree, refusal, name, elder):
        """Both the check and the move are refused alike and leave all as it was."""
        before = all_told(tree)
        for does in (tree.check_move, tree.move):
            with self.assertRaises(refusal) as caught:
                does(name, elder)
            self.assertIs(type(caught.exception), refusal)
            self.assertEqual(all_told(tree), before)
        return caught.exception

    def assert_no_promise(self, tree, name, elder, house, ware):
        error = self.assert_refused(tree, NoPromise, name, elder)
        self.assertEqual((error.house, error.ware), (house, ware))

    def assert_moved(self, tree, name, elder):
        before = all_told(tree)
        self.assertIsNone(tree.check_move(name, elder))
        self.assertEqual(all_told(tree), before)
        self.assertIsNone(tree.move(name, elder))
        self.assertEqual(tree.elder_of(name), elder)


class Moving(MoveCase):
    def test_the_elder_alone_changes(self):
        tree = tree_of([
            ("a", "top", {"room": 1}, {"room": 9}, 3), ("b", "a", {"room": 2}, {"room": 9}, 4),
            ("c", "b", {"room": 3}, {"room": 9}, 5), ("d", "top", {"coin": 4}, dict(FULL), 6),
        ])
        before = {name: (tree.promise_of(name), tree.cap_of(name), tree.weight_of(name)) for name in tree.names()}
        self.assert_moved(tree, "b", "d")
        after = {name: (tree.promise_of(name), tree.cap_of(name), tree.weight_of(name)) for name in tree.names()}
        self.assertEqual(after, before)
        self.assertEqual([tree.elder_of(name) for name in tree.names()], ["top", "d", "b", "top", None])

    def test_all_houses_beneath_move_along(self):
        tree = tree_of([("a", "top"), ("b", "a"), ("c", "b"), ("cc", "b"), ("d", "top"), ("e", "d")])
        self.assert_moved(tree, "b", "e")
        self.assertEqual(tree.beneath("top"), ["top", "a", "d", "e", "b", "c", "cc"])
        self.assertEqual(tree.line("cc"), ["cc", "b", "e", "d", "top"])
        self.assertEqual((tree.kids("a"), tree.kids("e")), ([], ["b"]))
        self.assertEqual(tree.beneath("a"), ["a"])

    def test_kids_stay_sorted(self):
        tree = tree_of([("x", "top"), ("m", "x"), ("a", "top"), ("z", "top")])
        self.assert_moved(tree, "z", "x")
        self.assert_moved(tree, "a", "x")
        self.assertEqual(tree.kids("x"), ["a", "m", "z"])
        self.assertEqual(tree.kids("top"), ["x"])

    def test_up_down_and_back(self):
        tree = tree_of([("a", "top"), ("b", "a"), ("c", "b")])
        before = all_told(tree)
        self.assert_moved(tree, "c", "top")
        self.assert_moved(tree, "a", "c")
        self.assertEqual(tree.line("b"), ["b", "a", "c", "top"])
        self.assert_moved(tree, "a", "top")
        self.assert_moved(tree, "c", "b")
        self.assertEqual(all_told(tree), before)

    def test_promises_beneath_move_along(self):
        tree = tree_of([
            ("a", "top"), ("b", "a", {"room": 2}, {"room": 9}), ("c", "b", {"room": 3}, dict(FULL)), ("d", "top"),
        ])
        self.assertEqual((tree.promised_beneath("a"), tree.promised_beneath("d")), ({"room": 5}, {}))
        self.assert_moved(tree, "b", "d")
        self.assertEqual((tree.promised_beneath("a"), tree.promised_beneath("d")), ({}, {"room": 5}))
        self.assertEqual(tree.promised_beneath("top"), {"room": 5})


class Refused(MoveCase):
    def test_no_house(self):
        tree = tree_of([("a", "top"), ("b", "top")])
        for thing in NO_HOUSES:
            with self.subTest(kind=type(thing)):
                self.assert_refused(tree, NoHouse, thing, "b")
                self.assert_refused(tree, NoHouse, "a", thing)
                self.assert_refused(tree, NoHouse, thing, thing)

    def test_no_house_goes_ahead_of_no_move(self):
        tree = tree_of([("a", "top")])
        self.assert_refused(tree, NoHouse, "top", "nobody")
        self.assert_refused(tree, NoHouse, "top", None)
        self.assert_refused(tree, NoHouse, "nobody", "nobody")

    def test_the_first_house(self):
        tree = tree_of([("a", "top"), ("b", "a")])
        for elder in ("top", "a", "b"):
            with self.subTest(elder):
                self.assert_refused(tree, NoMove, "top", elder)

    def test_the_house_itself(self):
        tree = tree_of([("a", "top"), ("b", "a")])
        for name in ("top", "a", "b"):
            with self.subTest(name):
                self.assert_refused(tree, NoMove, name, name)

    def test_a_house_beneath_it(self):
        tree = tree_of([("a", "top"), ("b", "a"), ("c", "b")])
        self.assert_refused(tree, NoMove, "a", "b")
        self.assert_refused(tree, NoMove, "a", "c")
        self.assert_refused(tree, NoMove, "b", "c")

    def test_its_elder_already(self):
        tree = tree_of([("a", "top"), ("b", "a")])
        self.assert_refused(tree, NoMove, "a", "top")
        self.assert_refused(tree, NoMove, "b", "a")

    def test_a_house_moved_away_may_be_moved_back(self):
        tree = tree_of([("a", "top"), ("b", "top")])
        self.assert_moved(tree, "a", "b")
        self.assert_refused(tree, NoMove, "a", "b")
        self.assert_refused(tree, NoMove, "b", "a")
        self.assert_moved(tree, "a", "top")


class Deep(MoveCase):
    def test_a_house_by_itself(self):
        tree = tree_of([("new", "top")])
        a_line(tree, "top", "abcdefghijk")
        self.assertEqual(len(tree.line("k")), 12)
        self.assert_refused(tree, TooDeep, "new", "k")
        self.assert_moved(tree, "new", "j")
        self.assertEqual(len(tree.line("new")), 12)

    def test_the_moved_houses_own_depth(self):
        # Beneath new the deepest line is new, p, q, r: four floors.
        tree = tree_of([("new", "top"), ("p", "new"), ("q", "p"), ("r", "q"), ("s", "new"), ("pp", "p")])
        a_line(tree, "top", "abcdefghi")
        self.assert_refused(tree, TooDeep, "new", "i")
        self.assert_refused(tree, TooDeep, "new", "h")
        self.assert_moved(tree, "new", "g")
        self.assertEqual(len(tree.line("r")), 12)
        self.assertEqual(len(tree.line("s")), 10)

    def test_only_what_moves_counts(self):
        # The house's own line above it is left behind.
        tree = tree_of([])
        a_line(tree, "top", "abcde")
        a_line(tree, "top", "mnopqrstuv")
        self.assertEqual(len(tree.line("v")), 11)
        self.assert_moved(tree, "e", "v")
        self.assertEqual(len(tree.line("e")), 12)
        self.assert_refused(tree, TooDeep, "d", "e")
        self.assert_moved(tree, "e", "d")
        self.assert_refused(tree, TooDeep, "d", "v")
        self.assert_moved(tree, "d", "u")

    def test_a_move_up_a_line_of_twelve(self):
        tree = tree_of([])
        a_line(tree, "top", "abcdefghijk")
        self.assert_moved(tree, "k", "top")
        self.assert_moved(tree, "j", "k")
        self.assert_moved(tree, "j", "i")
        self.assert_moved(tree, "k", "j")
        self.assertEqual(len(tree.line("k")), 12)

    def test_no_move_goes_ahead_of_too_deep(self):
        tree = tree_of([])
        a_line(tree, "top", "abcdefghijk")
        self.assert_refused(tree, NoMove, "j", "k")
        self.assert_refused(tree, NoMove, "a", "k")
        self.assert_refused(tree, NoMove, "top", "k")
        self.assert_refused(tree, NoMove, "k", "j")

    def test_too_deep_goes_ahead_of_no_promise(self):
        tree = tree_of([("new", "top", {"room": 1}, {"room": 1})])
        a_line(tree, "top", "abcdefghijk")
        self.assert_refused(tree, TooDeep, "new", "k")
        self.assert_no_promise(tree, "new", "j", "j", "room")


class Promised(MoveCase):
    def test_at_the_elder(self):
        tree = tree_of([
            ("a", "top", {"room": 3}, {"room": 9}), ("b", "top", {"room": 2}, {"room": 4}),
            ("c", "top", {"room": 2}, {"room": 5}),
        ])
        self.assert_no_promise(tree, "a", "b", "b", "room")
        self.assert_moved(tree, "a", "c")
        self.assertEqual(tree.promised_beneath("c"), {"room": 5})

    def test_the_first_ware(self):
        tree = tree_of([
            ("a", "top", {"room": 3, "coin": 3}, dict(FULL)),
            ("b", "top", {"coin": 2, "room": 2}, {"room": 4, "coin": 4}),
            ("c", "top", {}, {"coin": 3}), ("d", "top", {}, {"room": 3}), ("e", "top", {}, {}),
        ])
        self.assert_no_promise(tree, "a", "b", "b", "coin")
        self.assert_no_promise(tree, "a", "c", "c", "room")
        self.assert_no_promise(tree, "a", "d", "d", "coin")
        self.assert_no_promise(tree, "a", "e", "e", "coin")

    def test_promises_beneath_the_moved_house_count(self):
        tree = tree_of([
            ("a", "top", {"room": 1}, {"room": 9}), ("aa", "a", {"room": 2}, {"room": 9}),
            ("ab", "aa", {"room": 4}, {"room": 9}), ("b", "top", {}, {"room": 6}), ("c", "top", {}, {"room": 7}),
        ])
        self.assert_no_promise(tree, "a", "b", "b", "room")
        self.assert_moved(tree, "aa", "b")
        self.assert_moved(tree, "aa", "a")
        self.assert_moved(tree, "a", "c")

    def test_promises_beneath_the_elder_count(self):
        tree = tree_of([
            ("a", "top", {"room": 3}, {"room": 9}), ("b", "top", {}, {"room": 9}), ("c", "b", {"room": 7}, {"room": 9}),
        ])
        self.assert_no_promise(tree, "a", "b", "b", "room")

    def test_the_first_house_from_the_elder_up(self):
        tree = tree_of([
            ("m", "top", {"room": 1}, {"room": 6, "coin": 6}), ("n", "m", {"room": 1}, {"room": 5, "coin": 90}),
            ("o", "n", {"room": 1}, {"room": 90, "coin": 90}), ("a", "top", {"room": 3}, dict(FULL)),
            ("b", "top", {"room": 4}, dict(FULL)), ("c", "top", {"coin": 7}, dict(FULL)),
            ("d", "top", {"room": 3, "coin": 7}, dict(FULL)), ("e", "top", {"room": 91, "coin": 91}, dict(FULL)),
        ])
        self.assert_no_promise(tree, "b", "o", "n", "room")
        self.assert_no_promise(tree, "b", "m", "m", "room")
        self.assert_no_promise(tree, "c", "o", "m", "coin")
        self.assert_no_promise(tree, "d", "o", "m", "coin")
        self.assert_no_promise(tree, "e", "o", "o", "coin")
        self.assert_no_promise(tree, "e", "m", "m", "coin")
        self.assert_moved(tree, "a", "o")
        self.assertEqual(tree.promised_beneath("m"), {"room": 6})

    def test_houses_on_both_lines_are_not_looked_at(self):
        # top and f are as full as can be, with the moved promises counted once.
        tree = tree_of([
            ("f", "top", {"room": 2}, {"room": 10}), ("a", "f", {"room": 3}, {"room": 3}),
            ("b", "f", {"room": 5}, {"room": 8}), ("c", "b", {}, {"room": 3}),
        ], cap={"room": 10})
        self.assert_moved(tree, "a", "b")
        self.assert_moved(tree, "a", "c")
        self.assert_moved(tree, "a", "top")
        self.assert_moved(tree, "a", "c")
        self.assert_moved(tree, "a", "f")
        self.assert_moved(tree, "c", "top")
        self.assert_moved(tree, "a", "c")
        self.assertEqual(tree.promised_beneath("top"), {"room": 10})

    def test_an_elder_on_the_houses_own_line(self):
        tree = tree_of([
            ("a", "top", {}, {"room": 3}), ("b", "a", {}, {"room": 3}), ("c", "b", {"room": 3}, {"room": 3}),
        ], cap={"room": 3})
        self.assert_moved(tree, "c", "a")
        self.assert_moved(tree, "c", "top")
        self.assert_moved(tree, "c", "b")

    def test_no_move_goes_ahead_of_no_promise(self):
        tree = tree_of([("a", "top", {"room": 5}, {"room": 5}), ("b", "a", {}, {})])
        self.assert_refused(tree, NoMove, "a", "b")
        self.assert_refused(tree, NoMove, "top", "b")

    def test_a_refused_move_may_be_done_later(self):
        tree = tree_of([
            ("a", "top", {"room": 3}, {"room": 3}), ("b", "top", {}, {"room": 4}), ("c", "b", {"room": 2}, {"room": 2}),
        ])
        self.assert_no_promise(tree, "a", "b", "b", "room")
        self.assert_moved(tree, "c", "top")
        self.assert_moved(tree, "a", "b")
        self.assert_no_promise(tree, "c", "b", "b", "room")


class Model:
    """The tree again, reckoned in the plainest way: refusals alone, by what would be behind the deed."""

    def __init__(self, cap):
        self.elders = {"top": None}
        self.promises = {"top": {}}
        self.caps = {"top": cap}

    def line(self, name, elders):
        told = []
        while name is not None:
            told.append(name)
            name = elders[name]
        return told

    def over(self, house, elders, promises, caps):
        for ware in ("coin", "room"):
            together = sum(promises[name].get(ware, 0) for name in elders if house in self.line(name, elders))
            if together > caps[house].get(ware, 0):
                return ware
        return None

    def first_over(self, houses, elders, promises, caps):
        for house in houses:
            ware = self.over(house, elders, promises, caps)
            if ware is not None:
                return ("NoPromise", house, ware)
        return None

    def found(self, name, elder, promise, cap):
        if name in self.elders:
            return ("Taken",)
        if len(self.elders) == 40:
            return ("TooMany",)
        elders = {**self.elders, name: elder}
        promises = {**self.promises, name: promise}
        caps = {**self.caps, name: cap}
        if len(self.line(name, elders)) > 12:
            return ("TooDeep",)
        against = self.first_over(self.line(name, elders), elders, promises, caps)
        if against is None:
            self.elders, self.promises, self.caps = elders, promises, caps
        return against

    def move(self, name, elder):
        if name in self.line(elder, self.elders) or self.elders[name] == elder:
            return ("NoMove",)
        elders = {**self.elders, name: elder}
        if max(len(self.line(other, elders)) for other in elders) > 12:
            return ("TooDeep",)
        against = self.first_over(self.line(elder, elders), elders, self.promises, self.caps)
        if against is None:
            self.elders = elders
        return against


def outcome(does, *things):
    try:
        does(*things)
    except NoPromise as error:
        return ("NoPromise", error.house, error.ware)
    except TreeError as error:
        return (type(error).__name__,)
    return None


class Rows(unittest.TestCase):
    def assert_whole(self, tree):
        for name in tree.names():
            cap = tree.cap_of(name)
            self.assertLessEqual(len(tree.line(name)), 12)
            for ware, pieces in tree.promised_beneath(name).items():
                self.assertLessEqual(pieces, cap.get(ware, 0))

    def row(self, seed, steps, cap, greatest, foundings):
        # The same row of deeds each time: it hangs on the seed alone.
        numbers = random.Random(seed)
        tree, model = Tree(["room", "coin"], "top", {}, cap), Model(cap)
        seen = {}
        for step in range(steps):
            names = tree.names()
            # The last comers stand deep down: so lines grow long.
            elder = numbers.choice(names) if numbers.randrange(3) else list(model.elders)[-1]
            if numbers.randrange(10) < foundings:
                name = numbers.choice("abcdefgh") + numbers.choice("abcdefgh")
                promise = {"room": numbers.randrange(greatest), "coin": numbers.randrange(greatest)}
                limit = {"room": numbers.randrange(5 * greatest), "coin": numbers.randrange(5 * greatest)}
                told = outcome(tree.found, name, elder, promise, limit)
                hoped = model.found(name, elder, promise, limit)
            else:
                name = numbers.choice(names)
                before = all_told(tree)
                checked = outcome(tree.check_move, name, elder)
                self.assertEqual(all_told(tree), before)
                told = outcome(tree.move, name, elder)
                self.assertEqual(checked, told)
                hoped = model.move(name, elder)
            self.assertEqual(told, hoped)
            self.assertEqual({name: tree.elder_of(name) for name in tree.names()}, model.elders)
            self.assert_whole(tree)
            seen[told and told[0]] = True
        return seen

    def test_rows_with_promises(self):
        for seed in range(12):
            with self.subTest(seed):
                seen = self.row(seed, 120, {"room": 60, "coin": 80}, 6, 5)
                self.assertLessEqual({None, "NoPromise", "NoMove"}, set(seen))

    def test_rows_with_many_houses_and_long_lines(self):
        seen = {}
        for seed in range(6):
            with self.subTest(seed):
                seen.update(self.row(100 + seed, 150, {"room": 1000, "coin": 1000}, 1, 7))
        self.assertLessEqual({None, "NoMove", "TooDeep", "TooMany", "Taken"}, set(seen))


if __name__ == "__main__":
    unittest.main()
