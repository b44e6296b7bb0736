"""Points 21 to 23: how a tree is made, how houses are founded, and what a tree tells."""

import copy
import unittest

from quotatree.errors import (
    NoAmount, NoHouse, NoName, NoNumber, NoPromise, NoWare, Taken, TooDeep, TooMany,
)
from quotatree.tree import Tree

VAST = 10 ** 5000
# None of these is a name, and none the name of a house.
NO_NAMES = (
    None, True, False, 0, 1, -1, VAST, "", "Top", "top ", " top", "top\n", "a1", "abcdefghi", [], ["top"], ["a", "b"],
    (), ("top",), {}, {"top": 1}, {"top"}, 1.5, b"top", len, object(),
)
NO_WARES = (
    None, True, 0, 1, "room", "", (), ("room",), ("room", "coin"), {}, {"room": 1}, {"room"}, len, [],
    ["a", "b", "c", "d", "e", "f", "g"], ["a", "b", "c", "d", "e", "f", "a"], ["room", "room"],
    ["room", "coin", "room"], ["Room"], [""], ["room", "coins and more"], ["room", 1], [None], [True], [["room"]],
    ["room", ["coin"]], [("room",)], [{}], ["room", b"coin"], ["room "],
)
NO_WEIGHTS = (0, -1, 1001, 10 ** 30, VAST, True, False, None, "1", "", [], [1], (1,), {}, 1.0, len)
# What is refused as amounts, and with what.
NO_AMOUNTS = (
    (None, NoAmount), ([], NoAmount), ("", NoAmount), (("room", 1), NoAmount), (0, NoAmount), (True, NoAmount),
    ({"room": -1}, NoAmount), ({"room": 10 ** 30 + 1}, NoAmount), ({"room": True}, NoAmount), ({"room": "1"}, NoAmount),
    ({"room": None}, NoAmount), ({"corn": 1}, NoWare), ({"corn": 0}, NoWare), ({1: 1}, NoWare), ({None: 1}, NoWare),
    ({"room": -1, "corn": 1}, NoWare), ({("room",): 1}, NoWare), ({True: 1}, NoWare),
)
FULL = {"room": 100, "coin": 100}


def plain(wares=("room", "coin"), promise=None, cap=None):
    return Tree(list(wares), "top", promise or {}, dict(FULL) if cap is None else cap)


def several_floors():
    """Names that are beginnings of one another, founded in no order."""
    tree = Tree(["room", "coin"], "top", {"room": 1}, {"room": 100, "coin": 50}, 7)
    tree.found("b", "top", {"room": 2}, {"room": 40}, 3)
    tree.found("ab", "top", {"coin": 4}, {"room": 9, "coin": 30})
    tree.found("abc", "b", {"room": 8}, {"room": 20}, 1000)
    tree.found("a", "b", {"room": 16, "coin": 0}, {"room": 16, "coin": 0}, 1)
    tree.found("ba", "abc", {}, {})
    tree.found("aa", "ab", {"coin": 5}, {"coin": 10}, 2)
    tree.found("aaa", "ab", {"coin": 6}, {"coin": 10})
    tree.found("abcd", "b", {}, {"coin": 1})
    tree.found("z", "aa", {"coin": 5}, {"coin": 5})
    return tree


def a_line(count):
    """A tree that is one line of houses, from top down to the last one."""
    tree = plain()
    last = "top"
    for letter in "abcdefghijklmnop"[:count - 1]:
        tree.found(letter, last, {}, {})
        last = letter
    return tree, last


def all_told(tree):
    told = {"wares": tree.wares(), "names": tree.names()}
    for name in tree.names():
        told[name] = (
            tree.elder_of(name), tree.promise_of(name), tree.cap_of(name), tree.weight_of(name), tree.kids(name),
            tree.line(name), tree.beneath(name), tree.promised_beneath(name),
        )
    # A copy, so that a list or dict of the tree's own among them would not change along with the tree.
    return copy.deepcopy(told)


class TreeCase(unittest.TestCase):
    def assert_no_promise(self, house, ware, does, *things):
        with self.assertRaises(NoPromise) as caught:
            does(*things)
        self.assertEqual((caught.exception.house, caught.exception.ware), (house, ware))

    def assert_refused(self, tree, refusal, *things):
        """Refused, with all as it was behind it."""
        before = all_told(tree)
        with self.assertRaises(refusal) as caught:
            tree.found(*things)
        self.assertEqual(all_told(tree), before)
        return caught.exception


class Making(TreeCase):
    def test_what_is_handed_in_is_told(self):
        tree = Tree(["room", "coin"], "top", {"room": 3}, {"room": 5, "coin": 2}, 9)
        self.assertEqual(tree.names(), ["top"])
        self.assertEqual(tree.wares(), ["coin", "room"])
        self.assertIsNone(tree.elder_of("top"))
        self.assertEqual(tree.promise_of("top"), {"room": 3})
        self.assertEqual(tree.cap_of("top"), {"room": 5, "coin": 2})
        self.assertEqual(tree.weight_of("top"), 9)

    def test_the_weight_left_out(self):
        self.assertEqual(Tree(["room"], "top", {}, {}).weight_of("top"), 1)

    def test_the_edges(self):
        self.assertEqual(Tree(["a"], "a", {}, {}, 1).weight_of("a"), 1)
        self.assertEqual(Tree(["a"], "abcdefgh", {}, {}, 1000).weight_of("abcdefgh"), 1000)
        self.assertEqual(Tree(["f", "a", "e", "b", "d", "c"], "top", {}, {}).wares(), ["a", "b", "c", "d", "e", "f"])
        tree = Tree(["a"], "top", {"a": 10 ** 30}, {"a": 10 ** 30})
        self.assertEqual((tree.promise_of("top"), tree.cap_of("top")), ({"a": 10 ** 30}, {"a": 10 ** 30}))

    def test_no_ware(self):
        for wares in NO_WARES:
            with self.subTest(wares=wares):
                with self.assertRaises(NoWare):
                    Tree(wares, "top", {}, {})

    def test_no_name(self):
        for name in NO_NAMES:
            with self.subTest(kind=type(name)):
                with self.assertRaises(NoName):
                    Tree(["room"], name, {}, {})

    def test_promise_and_limit_as_amounts(self):
        for amounts, refusal in NO_AMOUNTS:
            with self.subTest(kind=type(amounts)):
                with self.assertRaises(refusal):
                    Tree(["room", "coin"], "top", amounts, dict(FULL))
                with self.assertRaises(refusal):
                    Tree(["room", "coin"], "top", {}, amounts)

    def test_no_weight(self):
        for weight in NO_WEIGHTS:
            with self.subTest(kind=type(weight)):
                with self.assertRaises(NoNumber):
                    Tree(["room"], "top", {}, {}, weight)

    def test_a_promise_beyond_the_limit(self):
        for promise, cap, ware in (
            ({"room": 2}, {"room": 1}, "room"), ({"room": 1}, {}, "room"),
            ({"room": 1}, {"room": 0, "coin": 9}, "room"),
            ({"room": 2, "coin": 2}, {"room": 1, "coin": 1}, "coin"), ({"coin": 1, "room": 2}, {"coin": 1}, "room"),
            ({"room": 10 ** 30}, {"room": 10 ** 30 - 1}, "room"),
        ):
            for wares in (["room", "coin"], ["coin", "room"]):
                with self.subTest(promise=promise, cap=cap):
                    self.assert_no_promise("top", ware, Tree, wares, "top", promise, cap)
        self.assert_no_promise("mill", "room", Tree, ["room"], "mill", {"room": 1}, {})

    def test_a_ware_that_the_limit_does_not_name(self):
        self.assertEqual(Tree(["room", "coin"], "top", {"coin": 0}, {"room": 1}).cap_of("top"), {"room": 1})
        self.assert_no_promise("top", "coin", Tree, ["room", "coin"], "top", {"coin": 1}, {"room": 1})

    def test_two_refusals_at_once(self):
        bad = (
            (0, [], NoWare), (1, "Top", NoName), (2, {"room": -1}, NoAmount), (2, {"corn": 1}, NoWare),
            (3, None, NoAmount), (3, {"corn": 1}, NoWare), (4, 0, NoNumber),
        )
        for place, thing, refusal in bad:
            for later, other, last in bad:
                if later > place:
                    things = [["room", "coin"], "top", {"coin": 5}, {}, 1]
                    things[place] = thing
                    things[later] = other
                    with self.subTest(things=things):
                        with self.assertRaises(refusal):
                            Tree(*things)

    def test_no_promise_comes_last(self):
        for place, thing, refusal in (
            (0, ["room", "room"], NoWare), (1, "", NoName), (3, {"room": 1001, "corn": 1}, NoWare),
            (3, {"room": -1}, NoAmount), (4, 1001, NoNumber),
        ):
            things = [["room", "coin"], "top", {"coin": 5}, {"coin": 4}, 1]
            things[place] = thing
            with self.subTest(things=things):
                with self.assertRaises(refusal):
                    Tree(*things)

    def test_what_was_handed_in_stays_and_is_not_kept(self):
        wares, promise, cap = ["room", "coin"], {"room": 1, "coin": 0}, {"room": 5, "coin": 0}
        tree = Tree(wares, "top", promise, cap)
        self.assertEqual((wares, promise, cap), (["room", "coin"], {"room": 1, "coin": 0}, {"room": 5, "coin": 0}))
        before = all_told(tree)
        wares.clear()
        promise.clear()
        cap["room"] = 99
        self.assertEqual(all_told(tree), before)
        self.assertEqual(tree.cap_of("top"), {"room": 5})

    def test_two_trees_are_apart(self):
        one, other = plain(), plain()
        one.found("a", "top", {"room": 1}, {"room": 1})
        self.assertEqual(other.names(), ["top"])
        self.assertEqual(other.promised_beneath("top"), {})


class Founding(TreeCase):
    def test_what_is_handed_in_is_told(self):
        tree = plain()
        self.assertIsNone(tree.found("mill", "top", {"room": 3, "coin": 0}, {"room": 5, "coin": 1}, 12))
        self.assertEqual(tree.names(), ["mill", "top"])
        self.assertEqual(tree.elder_of("mill"), "top")
        self.assertEqual(tree.promise_of("mill"), {"room": 3})
        self.assertEqual(tree.cap_of("mill"), {"room": 5, "coin": 1})
        self.assertEqual(tree.weight_of("mill"), 12)
        tree.found("inn", "mill", {}, {})
        self.assertEqual((tree.elder_of("inn"), tree.weight_of("inn")), ("mill", 1))

    def test_a_limit_may_be_beyond_the_elders(self):
        tree = plain(cap={"room": 5})
        tree.found("mill", "top", {"room": 5}, {"room": 10 ** 30})
        self.assertEqual(tree.cap_of("mill"), {"room": 10 ** 30})

    def test_no_name(self):
        tree = plain()
        for name in NO_NAMES:
            with self.subTest(kind=type(name)):
                self.assert_refused(tree, NoName, name, "top", {}, {})

    def test_taken(self):
        tree = several_floors()
        for name in tree.names():
            with self.subTest(name):
                self.assert_refused(tree, Taken, name, "top", {}, {})

    def test_an_elder_that_is_none(self):
        tree = plain()
        tree.found("mill", "top", {}, {})
        for elder in NO_NAMES + ("new", "nobody", "to", "topp", "mil", "mille", ["mill"], ("mill",)):
            with self.subTest(kind=type(elder)):
                self.assert_refused(tree, NoHouse, "new", elder, {}, {})

    def test_promise_and_limit_as_amounts(self):
        tree = plain()
        for amounts, refusal in NO_AMOUNTS:
            with self.subTest(kind=type(amounts)):
                self.assert_refused(tree, refusal, "new", "top", amounts, dict(FULL))
                self.assert_refused(tree, refusal, "new", "top", {}, amounts)

    def test_no_weight(self):
        tree = plain()
        for weight in NO_WEIGHTS:
            with self.subTest(kind=type(weight)):
                self.assert_refused(tree, NoNumber, "new", "top", {}, {}, weight)
        tree.found("light", "top", {}, {}, 1)
        tree.found("heavy", "top", {}, {}, 1000)
        self.assertEqual((tree.weight_of("light"), tree.weight_of("heavy")), (1, 1000))

    def test_two_refusals_at_once(self):
        bad = (
            (0, "New", NoName), (0, "top", Taken), (1, "nobody", NoHouse), (1, ["top"], NoHouse),
            (2, {"room": -1}, NoAmount), (2, {"corn": 1}, NoWare), (3, [], NoAmount), (3, {"corn": 1}, NoWare),
            (4, 0, NoNumber),
        )
        tree = plain()
        for place, thing, refusal in bad:
            for later, other, last in bad:
                if later > place:
                    things = ["new", "top", {"coin": 5}, {}, 1]
                    things[place] = thing
                    things[later] = other
                    with self.subTest(things=things):
                        self.assert_refused(tree, refusal, *things)

    def test_forty_houses(self):
        tree = plain()
        names = [one + other for one in "abcde" for other in "abcdefgh"][:39]
        for name in names:
            tree.found(name, "top", {}, {})
        self.assertEqual(len(tree.names()), 40)
        self.assert_refused(tree, TooMany, "new", "top", {}, {})
        self.assert_refused(tree, TooMany, "new", "aa", {}, {})
        self.assertIs(tree.has("new"), False)
        # The refusals told ahead of it go first, those behind it do not.
        self.assert_refused(tree, NoName, "New", "top", {}, {})
        self.assert_refused(tree, Taken, "aa", "top", {}, {})
        self.assert_refused(tree, NoHouse, "new", "nobody", {}, {})
        self.assert_refused(tree, NoAmount, "new", "top", None, {})
        self.assert_refused(tree, NoWare, "new", "top", {}, {"corn": 1})
        self.assert_refused(tree, NoNumber, "new", "top", {}, {}, 0)
        self.assert_refused(tree, TooMany, "new", "top", {"room": 1}, {})

    def test_forty_houses_go_ahead_of_a_line_of_twelve(self):
        tree, last = a_line(12)
        for name in [one + other for one in "abcd" for other in "abcdefg"]:
            tree.found(name, "top", {}, {})
        self.assertEqual(len(tree.names()), 40)
        self.assert_refused(tree, TooMany, "new", last, {}, {})

    def test_a_line_of_twelve(self):
        tree, last = a_line(12)
        self.assertEqual(len(tree.line(last)), 12)
        self.assert_refused(tree, TooDeep, "new", last, {}, {})
        self.assert_refused(tree, NoName, "", last, {}, {})
        self.assert_refused(tree, Taken, "top", last, {}, {})
        self.assert_refused(tree, NoAmount, "new", last, None, {})
        self.assert_refused(tree, NoNumber, "new", last, {}, {}, 0)
        self.assert_refused(tree, TooDeep, "new", last, {"room": 1}, {})
        # Its elder has a line of eleven: there is a place beside it.
        tree.found("new", tree.elder_of(last), {}, {})
        self.assertEqual(len(tree.line("new")), 12)


class FoundingByPromises(TreeCase):
    def test_at_the_new_house_itself(self):
        tree = plain(cap={})
        for promise, cap, ware in (
            ({"room": 2}, {"room": 1}, "room"), ({"room": 1}, {}, "room"), ({"room": 1, "coin": 1}, {}, "coin"),
            ({"room": 1, "coin": 1}, {"coin": 1}, "room"),
        ):
            with self.subTest(promise=promise, cap=cap):
                error = self.assert_refused(tree, NoPromise, "new", "top", promise, cap)
                self.assertEqual((error.house, error.ware), ("new", ware))

    def test_at_the_elder(self):
        tree = plain(promise={"room": 4}, cap={"room": 10, "coin": 1})
        tree.found("a", "top", {"room": 3}, {"room": 9})
        error = self.assert_refused(tree, NoPromise, "new", "top", {"room": 4}, dict(FULL))
        self.assertEqual((error.house, error.ware), ("top", "room"))
        tree.found("new", "top", {"room": 3}, dict(FULL))
        self.assertEqual(tree.promised_beneath("top"), {"room": 10})
        self.assert_no_promise("top", "room", tree.found, "more", "top", {"room": 1}, dict(FULL))
        self.assert_no_promise("top", "coin", tree.found, "more", "top", {"room": 1, "coin": 2}, dict(FULL))

    def test_at_a_house_further_up(self):
        tree = plain(cap={"room": 10, "coin": 10})
        tree.found("a", "top", {"room": 2}, {"room": 8, "coin": 20})
        tree.found("b", "a", {"room": 2}, {"room": 50, "coin": 50})
        tree.found("side", "top", {"room": 1, "coin": 6}, {"room": 1, "coin": 6})
        # b has room for all of it; a, then top, are the ones that have not.
        for promise, house, ware in (
            ({"room": 5}, "a", "room"), ({"room": 9}, "a", "room"), ({"coin": 5}, "top", "coin"),
            ({"room": 5, "coin": 5}, "a", "room"), ({"room": 4, "coin": 5}, "top", "coin"),
            ({"room": 51, "coin": 51}, "b", "coin"), ({"room": 49, "coin": 21}, "b", "room"),
            ({"coin": 21, "room": 5}, "a", "coin"),
        ):
            with self.subTest(promise=promise):
                error = self.assert_refused(tree, NoPromise, "new", "b", promise, {"room": 60, "coin": 60})
                self.assertEqual((error.house, error.ware), (house, ware))
        tree.found("new", "b", {"room": 4, "coin": 4}, {"room": 60, "coin": 60})
        self.assertEqual(tree.promised_beneath("top"), {"room": 9, "coin": 10})

    def test_promises_deep_down_count_at_every_elder(self):
        tree, last = a_line(1)
        tree.found("a", "top", {}, {"room": 100})
        tree.found("b", "a", {}, {"room": 100})
        tree.found("c", "b", {"room": 60}, {"room": 100})
        tree.found("d", "c", {"room": 39}, {"room": 100})
        self.assert_no_promise("top", "room", tree.found, "new", "top", {"room": 2}, dict(FULL))
        self.assert_no_promise("a", "room", tree.found, "new", "a", {"room": 2}, dict(FULL))
        self.assert_no_promise("d", "room", tree.found, "new", "d", {"room": 62}, dict(FULL))
        self.assert_no_promise("c", "room", tree.found, "new", "d", {"room": 2}, dict(FULL))
        tree.found("new", "d", {"room": 1}, {"room": 1})

    def test_other_branches_do_not_count(self):
        tree = plain(cap={"room": 20})
        tree.found("a", "top", {"room": 10}, {"room": 10})
        tree.found("b", "top", {}, {"room": 10})
        tree.found("c", "b", {"room": 10}, {"room": 10})
        self.assertEqual(tree.promised_beneath("b"), {"room": 10})

    def test_the_same_name_may_be_founded_behind_a_refusal(self):
        tree = plain(cap={"room": 5})
        for things, refusal in (
            (("new", "nobody", {}, {}), NoHouse), (("new", "top", None, {}), NoAmount),
            (("new", "top", {}, {}, 0), NoNumber), (("new", "top", {"room": 6}, {"room": 6}), NoPromise),
            (("new", "top", {"room": 1}, {}), NoPromise),
        ):
            self.assert_refused(tree, refusal, *things)
        tree.found("new", "top", {"room": 5}, {"room": 5})
        self.assertEqual(tree.beneath("top"), ["top", "new"])

    def test_it_may_be_founded_when_nothing_stands_against_it_any_more(self):
        tree = plain(cap={"room": 10})
        tree.found("a", "top", {}, {"room": 4})
        tree.found("b", "a", {"room": 3}, {"room": 3})
        self.assert_no_promise("a", "room", tree.found, "new", "a", {"room": 2}, {"room": 2})
        tree.move("b", "top")
        tree.found("new", "a", {"room": 2}, {"room": 2})
        self.assertEqual(tree.promised_beneath("a"), {"room": 2})

    def test_what_was_handed_in_stays_and_is_not_kept(self):
        tree = plain()
        promise, cap = {"room": 1, "coin": 0}, {"room": 5, "coin": 0}
        tree.found("new", "top", promise, cap)
        self.assertEqual((promise, cap), ({"room": 1, "coin": 0}, {"room": 5, "coin": 0}))
        before = all_told(tree)
        promise["room"] = 50
        cap.clear()
        self.assertEqual(all_told(tree), before)


class Telling(TreeCase):
    def test_wares_and_names(self):
        tree = several_floors()
        self.assertEqual(tree.wares(), ["coin", "room"])
        self.assertEqual(tree.names(), ["a", "aa", "aaa", "ab", "abc", "abcd", "b", "ba", "top", "z"])

    def test_each_house_by_itself(self):
        tree = several_floors()
        for name, elder, promise, cap, weight in (
            ("top", None, {"room": 1}, {"room": 100, "coin": 50}, 7), ("b", "top", {"room": 2}, {"room": 40}, 3),
            ("ab", "top", {"coin": 4}, {"room": 9, "coin": 30}, 1), ("abc", "b", {"room": 8}, {"room": 20}, 1000),
            ("a", "b", {"room": 16}, {"room": 16}, 1), ("ba", "abc", {}, {}, 1),
            ("aa", "ab", {"coin": 5}, {"coin": 10}, 2), ("aaa", "ab", {"coin": 6}, {"coin": 10}, 1),
            ("abcd", "b", {}, {"coin": 1}, 1), ("z", "aa", {"coin": 5}, {"coin": 5}, 1),
        ):
            with self.subTest(name):
                self.assertEqual(tree.elder_of(name), elder)
                self.assertEqual(tree.promise_of(name), promise)
                self.assertEqual(tree.cap_of(name), cap)
                self.assertEqual(tree.weight_of(name), weight)

    def test_kids_lines_and_houses_beneath(self):
        tree = several_floors()
        for name, kids, line, beneath in (
            ("top", ["ab", "b"], ["top"], ["top", "ab", "aa", "z", "aaa", "b", "a", "abc", "ba", "abcd"]),
            ("ab", ["aa", "aaa"], ["ab", "top"], ["ab", "aa", "z", "aaa"]),
            ("b", ["a", "abc", "abcd"], ["b", "top"], ["b", "a", "abc", "ba", "abcd"]),
            ("abc", ["ba"], ["abc", "b", "top"], ["abc", "ba"]), ("ba", [], ["ba", "abc", "b", "top"], ["ba"]),
            ("aa", ["z"], ["aa", "ab", "top"], ["aa", "z"]), ("z", [], ["z", "aa", "ab", "top"], ["z"]),
            ("a", [], ["a", "b", "top"], ["a"]), ("aaa", [], ["aaa", "ab", "top"], ["aaa"]),
        ):
            with self.subTest(name):
                self.assertEqual(tree.kids(name), kids)
                self.assertEqual(tree.line(name), line)
                self.assertEqual(tree.beneath(name), beneath)

    def test_promises_beneath(self):
        tree = several_floors()
        for name, hoped in (
            ("top", {"room": 27, "coin": 20}), ("b", {"room": 26}), ("ab", {"coin": 20}), ("aa", {"coin": 10}),
            ("abc", {"room": 8}), ("ba", {}), ("abcd", {}), ("a", {"room": 16}), ("z", {"coin": 5}),
        ):
            with self.subTest(name):
                self.assertEqual(tree.promised_beneath(name), hoped)

    def test_sums_are_exact(self):
        # An elder's limit is within the bounds, so what is told is great, but never greater than it.
        tree = Tree(["a"], "top", {"a": 10 ** 29 + 1}, {"a": 10 ** 30})
        tree.found("b", "top", {"a": 9 * 10 ** 29 - 1}, {"a": 10 ** 30})
        self.assertEqual(tree.promised_beneath("top"), {"a": 10 ** 30})
        self.assert_no_promise("top", "a", tree.found, "c", "top", {"a": 1}, {"a": 1})

    def test_has(self):
        tree = several_floors()
        for name in tree.names():
            self.assertIs(tree.has(name), True)
        for thing in NO_NAMES + ("nobody", "to", "topp", "room", "coin", "abcde"):
            with self.subTest(kind=type(thing)):
                self.assertIs(tree.has(thing), False)

    def test_no_house(self):
        tree = several_floors()
        askings = (
            tree.elder_of, tree.promise_of, tree.cap_of, tree.weight_of, tree.kids, tree.line, tree.beneath,
            tree.promised_beneath,
        )
        before = all_told(tree)
        for ask in askings:
            for thing in NO_NAMES + ("nobody", "to", "topp", "room", "coin", "abcde", ["top"], ("top",)):
                with self.subTest(ask.__name__, kind=type(thing)):
                    with self.assertRaises(NoHouse):
                        ask(thing)
        self.assertEqual(all_told(tree), before)

    def test_changing_what_was_told_changes_nothing(self):
        tree = several_floors()
        before = all_told(tree)
        for told in (tree.wares(), tree.names()):
            told.clear()
        for name in before["names"]:
            for told in (tree.kids(name), tree.line(name), tree.beneath(name)):
                told.append("nobody")
                told.reverse()
            for told in (tree.promise_of(name), tree.cap_of(name), tree.promised_beneath(name)):
                told["room"] = 99
                told["corn"] = 1
        self.assertEqual(all_told(tree), before)

    def test_what_was_told_stays(self):
        tree = several_floors()
        told = all_told(tree)
        again = all_told(tree)
        tree.found("new", "b", {"room": 1}, {"room": 1})
        tree.move("abc", "top")
        self.assertEqual(told, again)


if __name__ == "__main__":
    unittest.main()
