"""Point 11: the classes of refusals and their fields."""

import unittest

from quotatree import errors
from quotatree.errors import NoPromise, NoRoom, TreeError

MADE_OF_A_TEXT = (
    "NoName", "Taken", "NoHouse", "NoWare", "NoAmount", "NoNumber", "TooMany",
    "TooDeep", "NoMove", "NoHold", "NoDeed", "NoText", "NoRow",
)
ALL = MADE_OF_A_TEXT + ("NoPromise", "NoRoom")
HOLDERS = [(1, 5), (7, 10 ** 40)]


def make(name):
    kind = getattr(errors, name)
    if name == "NoPromise":
        return kind("mill", "coin")
    if name == "NoRoom":
        return kind("mill", "coin", list(HOLDERS))
    return kind("what is the matter")


class Classes(unittest.TestCase):
    def test_there_are_fifteen(self):
        self.assertEqual(len(ALL), 15)
        self.assertEqual(len({getattr(errors, name) for name in ALL}), 15)

    def test_tree_error_stands_under_value_error(self):
        self.assertEqual(TreeError.__bases__, (ValueError,))
        self.assertIsInstance(TreeError("x"), ValueError)

    def test_each_stands_under_tree_error_alone(self):
        for name in ALL:
            with self.subTest(name):
                self.assertEqual(getattr(errors, name).__bases__, (TreeError,))

    def test_each_is_taken_as_itself_tree_error_and_value_error(self):
        for name in ALL:
            for taken in (getattr(errors, name), TreeError, ValueError):
                with self.subTest(name, taken=taken.__name__):
                    with self.assertRaises(taken):
                        raise make(name)

    def test_none_is_one_of_the_others(self):
        for name in ALL:
            for other in ALL:
                if other != name:
                    with self.subTest(name, other=other):
                        self.assertNotIsInstance(make(name), getattr(errors, other))

    def test_a_tree_error_alone_is_none_of_them(self):
        for name in ALL:
            with self.subTest(name):
                self.assertNotIsInstance(TreeError("x"), getattr(errors, name))


class Fields(unittest.TestCase):
    def test_no_promise(self):
        error = NoPromise("mill", "coin")
        self.assertEqual((error.house, error.ware), ("mill", "coin"))
        self.assertFalse(hasattr(error, "holders"))

    def test_no_room(self):
        error = NoRoom("mill", "coin", HOLDERS)
        self.assertEqual((error.house, error.ware), ("mill", "coin"))
        self.assertEqual(error.holders, [(1, 5), (7, 10 ** 40)])

    def test_no_room_without_holders(self):
        self.assertEqual(NoRoom("mill", "coin", []).holders, [])

    def test_holders_keep_their_order_and_their_twins(self):
        handed = [(9, 1), (2, 3), (9, 1)]
        self.assertEqual(NoRoom("mill", "coin", handed).holders, [(9, 1), (2, 3), (9, 1)])

    def test_the_holders_are_the_errors_own(self):
        handed = [(1, 5), (7, 2)]
        error = NoRoom("mill", "coin", handed)
        handed.clear()
        self.assertEqual(error.holders, [(1, 5), (7, 2)])

    def test_changing_the_holders_leaves_what_was_handed_in(self):
        handed = [(1, 5), (7, 2)]
        error = NoRoom("mill", "coin", handed)
        error.holders.clear()
        self.assertEqual(handed, [(1, 5), (7, 2)])

    def test_two_errors_share_no_list(self):
        handed = [(1, 5)]
        one = NoRoom("mill", "coin", handed)
        other = NoRoom("inn", "room", handed)
        one.holders.append((2, 6))
        self.assertEqual(other.holders, [(1, 5)])
        self.assertEqual((one.house, one.ware), ("mill", "coin"))
        self.assertEqual((other.house, other.ware), ("inn", "room"))

    def test_the_fields_are_there_when_raised(self):
        with self.assertRaises(TreeError) as caught:
            raise NoRoom("mill", "coin", [(3, 4)])
        error = caught.exception
        self.assertEqual((error.house, error.ware, error.holders), ("mill", "coin", [(3, 4)]))


if __name__ == "__main__":
    unittest.main()
