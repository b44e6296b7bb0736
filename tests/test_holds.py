"""Points 31 and 32: the objects of promised holds and of loans."""

import unittest

from quotatree.holds import Hold, Loan

CLASSES = (Hold, Loan)


class Fields(unittest.TestCase):
    def test_what_they_are_made_of(self):
        for kind in CLASSES:
            for things in (
                (1, "mill", {"room": 3}, 0, None), (7, "inn", {"room": 3, "coin": 10 ** 30}, 9, 1000),
                (300, "a", {"coin": 1}, 5, 1),
            ):
                with self.subTest(kind.__name__, things=things):
                    hold = kind(*things)
                    self.assertEqual((hold.number, hold.house, hold.amounts, hold.rank, hold.turns), things)

    def test_a_loan_is_a_hold_but_a_hold_is_no_loan(self):
        self.assertEqual(Loan.__bases__, (Hold,))
        self.assertNotIsInstance(Hold(1, "mill", {"room": 3}, 0, None), Loan)

    def test_the_amounts_are_the_objects_own(self):
        for kind in CLASSES:
            with self.subTest(kind.__name__):
                handed = {"room": 3}
                hold = kind(1, "mill", handed, 0, None)
                other = kind(2, "mill", handed, 0, None)
                handed["coin"] = 5
                self.assertEqual(hold.amounts, {"room": 3})
                hold.amounts["room"] = 8
                self.assertEqual(handed, {"room": 3, "coin": 5})
                self.assertEqual(other.amounts, {"room": 3})


class Ending(unittest.TestCase):
    def test_sure(self):
        self.assertIs(Hold(1, "mill", {"room": 3}, 0, None).is_sure(), True)
        self.assertIs(Loan(1, "mill", {"room": 3}, 0, None).is_sure(), False)

    def test_a_promised_hold_may_never_be_ended(self):
        for own in range(10):
            hold = Hold(1, "mill", {"room": 3}, own, None)
            for rank in range(10):
                for sure in (True, False):
                    self.assertIs(hold.may_end(rank, sure), False)

    def test_a_loan_may_for_what_is_sure(self):
        for own in range(10):
            loan = Loan(1, "mill", {"room": 3}, own, 4)
            for rank in range(10):
                self.assertIs(loan.may_end(rank, True), True)

    def test_a_loan_of_lower_rank_may_else(self):
        for own in range(10):
            loan = Loan(1, "mill", {"room": 3}, own, None)
            for rank in range(10):
                with self.subTest(own=own, rank=rank):
                    self.assertIs(loan.may_end(rank, False), own < rank)


class Told(unittest.TestCase):
    def test_the_tuple(self):
        self.assertEqual(Hold(4, "mill", {"room": 3}, 2, None).told(), (4, "mill", {"room": 3}, 2, None, True))
        self.assertEqual(Loan(5, "inn", {"coin": 1}, 9, 12).told(), (5, "inn", {"coin": 1}, 9, 12, False))

    def test_kinds(self):
        for kind in CLASSES:
            told = kind(4, "mill", {"room": 3}, 2, 7).told()
            self.assertEqual([type(thing) for thing in (told,) + told], [tuple, int, str, dict, int, int, bool])

    def test_what_is_told_is_the_askers_own(self):
        for kind in CLASSES:
            hold = kind(4, "mill", {"room": 3}, 2, None)
            told = hold.told()
            told[2]["room"] = 99
            self.assertEqual(hold.amounts, {"room": 3})
            self.assertEqual(hold.told()[2], {"room": 3})

    def test_asking_changes_nothing(self):
        for kind in CLASSES:
            hold = kind(4, "mill", {"room": 3}, 2, 6)
            before = hold.told()
            hold.is_sure()
            hold.may_end(9, True)
            hold.may_end(0, False)
            self.assertEqual(hold.told(), before)


if __name__ == "__main__":
    unittest.main()
