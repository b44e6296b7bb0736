"""Points 91 to 94: measures and amounts as texts."""

import copy
import itertools
import random
import re
import unittest
from fractions import Fraction

from quotatree.errors import NoText, NoWare, TreeError
from quotatree.measures import read_amounts, read_measure, read_number, show_amounts, show_measure, show_share

VAST = 10 ** 5000
GREAT = 10 ** 30
NO_TEXTS = (
    None, True, False, 0, 1, -1, VAST, 1.5, b"1", [], ["1"], (), ("1",), {}, {"room": 1}, {"1"}, len, object(), NoText,
)
GRAINS = {"room": 4, "coin": 1, "ale": 1000, "hand": 6}


def shown(ones):
    """A Fraction of ones, as the document shows it."""
    whole, rest = divmod(ones, 1)
    if rest == 0:
        return str(whole)
    part = f"{rest.numerator}/{rest.denominator}"
    return f"{whole}+{part}" if whole else part


class MeasureCase(unittest.TestCase):
    def assert_refused(self, refusal, does, *things):
        with self.assertRaises(TreeError) as caught:
            does(*things)
        self.assertIs(type(caught.exception), refusal)


class Shown(MeasureCase):
    """Points 91 and 92."""

    def test_measures(self):
        for pieces, grain, text in (
            (7, 4, "1+3/4"), (2, 4, "1/2"), (8, 4, "2"), (0, 4, "0"), (0, 1, "0"), (0, 1000, "0"), (1, 4, "1/4"),
            (3, 4, "3/4"), (4, 4, "1"), (5, 4, "1+1/4"), (6, 4, "1+1/2"), (1, 1, "1"), (5, 1, "5"),
            (GREAT, 1, str(GREAT)),
            (1, 1000, "1/1000"), (999, 1000, "999/1000"), (1000, 1000, "1"), (1001, 1000, "1+1/1000"),
            (500, 1000, "1/2"),
            (2750, 1000, "2+3/4"), (10, 6, "1+2/3"), (9, 6, "1+1/2"), (40, 4, "10"), (41, 4, "10+1/4"),
            (12, 997, "12/997"),
            (GREAT, 1000, "1" + "0" * 27), (GREAT, 7, str(GREAT // 7) + "+1/7"), (GREAT + 1, 1, str(GREAT + 1)),
            (40 * GREAT + 3, 4, "1" + "0" * 31 + "+3/4"),
        ):
            with self.subTest(pieces=pieces, grain=grain):
                self.assertEqual(show_measure(pieces, grain), text)

    def test_measures_of_all_grains(self):
        draws = random.Random(91)
        for grain in range(1, 1001):
            for pieces in (0, 1, grain - 1, grain, grain + 1, 2 * grain, draws.randrange(grain),
                           draws.randrange(10 ** 6), draws.randrange(GREAT), GREAT):
                with self.subTest(pieces=pieces, grain=grain):
                    self.assertEqual(show_measure(pieces, grain), shown(Fraction(pieces, grain)))
                    self.assertEqual(show_share((pieces, 1), grain), shown(Fraction(pieces, grain)))

    def test_shares(self):
        for share, grain, text in (
            ((0, 1), 4, "0"), ((0, 1), 1, "0"), ((1, 2), 1, "1/2"), ((1, 2), 4, "1/8"), ((7, 1), 4, "1+3/4"),
            ((7, 3), 1, "2+1/3"), ((7, 3), 4, "7/12"), ((16, 3), 4, "1+1/3"), ((4, 3), 4, "1/3"),
            ((5, 3), 1000, "1/600"),
            ((8, 1), 4, "2"), ((1, 1000), 1000, "1/1000000"), ((3000, 7), 1000, "3/7"), ((12, 1), 1, "12"),
            ((100, 7), 4, "3+4/7"), ((GREAT, 1), 1, str(GREAT)), ((10 ** 60 + 1, 10 ** 30), 1, f"{GREAT}+1/{GREAT}"),
            ((999, 1000), 1, "999/1000"), ((1001, 1000), 1, "1+1/1000"),
        ):
            with self.subTest(share=share, grain=grain):
                self.assertEqual(show_share(share, grain), text)

    def test_drawn_shares(self):
        draws = random.Random(92)
        for time in range(2000):
            share = Fraction(draws.randrange(10 ** draws.randint(1, 40)), draws.randint(1, 10 ** draws.randint(1, 20)))
            grain = draws.randint(1, 1000)
            with self.subTest(share=share, grain=grain):
                self.assertEqual(show_share((share.numerator, share.denominator), grain), shown(share / grain))

    def test_numbers_of_many_figures(self):
        top, bottom = 10 ** 900 + 1, 10 ** 450
        self.assertEqual(show_share((top, bottom), 1), "1" + "0" * 450 + "+1/1" + "0" * 450)
        self.assertEqual(show_measure(10 ** 990, 1), "1" + "0" * 990)


class Numbers(MeasureCase):
    """Of point 93: numbers."""

    def test_read(self):
        for number in [0, 1, 9, 10, 99, 100, 1000, GREAT - 1, GREAT, GREAT + 1, 10 ** 31 - 1] + list(range(120)):
            with self.subTest(number=number):
                told = read_number(str(number))
                self.assertEqual(told, number)
                self.assertIs(type(told), int)

    def test_refused(self):
        for text in (
            "", " ", "-", "-1", "+1", "-0", "00", "01", "007", "0" * 31, "1 ", " 1", "1 1", "1\n", "\n1", "1\t", "a",
            "1a",
            "a1", "0x1", "1e3", "1.0", "1_0", "1,0", "1/1", "1+1", "~", "!", "(1)", "1" * 32, "1" + "0" * 31, "0" * 32,
            "9" * 5000, "0" + "1" * 31, "None", "True", "1:", ":", "|",
        ):
            with self.subTest(text=text[:40]):
                self.assert_refused(NoText, read_number, text)

    def test_no_texts(self):
        for place, thing in enumerate(NO_TEXTS):
            with self.subTest(place=place):
                self.assert_refused(NoText, read_number, thing)

    def test_every_short_text(self):
        for length in (1, 2, 3):
            for signs in itertools.product("0129 -+a\n", repeat=length):
                text = "".join(signs)
                with self.subTest(text=text):
                    if re.fullmatch("0|[1-9][0-9]*", text):
                        self.assertEqual(read_number(text), int(text))
                    else:
                        self.assert_refused(NoText, read_number, text)


class Measures(MeasureCase):
    """Of point 93: measures."""

    def test_read(self):
        for text, grain, pieces in (
            ("0", 4, 0), ("1/4", 4, 1), ("1/2", 4, 2), ("3/4", 4, 3), ("1", 4, 4), ("1+3/4", 4, 7), ("2", 4, 8),
            ("10+1/2", 4, 42), ("0", 1, 0), ("7", 1, 7), ("1/1000", 1000, 1), ("1+1/3", 6, 8), ("1+2/3", 6, 10),
        ):
            with self.subTest(text=text, grain=grain):
                told = read_measure(text, grain)
                self.assertEqual(told, pieces)
                self.assertIs(type(told), int)

    def test_read_back_as_shown(self):
        draws = random.Random(93)
        for grain in range(1, 1001):
            for pieces in (0, 1, grain - 1, grain, grain + 1, draws.randrange(grain), draws.randrange(10 ** 6),
                           draws.randrange(GREAT), GREAT - 1, GREAT):
                with self.subTest(pieces=pieces, grain=grain):
                    self.assertEqual(read_measure(shown(Fraction(pieces, grain)), grain), pieces)

    def test_the_greatest_and_one_more(self):
        for grain in (1, 2, 3, 4, 7, 10, 997, 1000):
            with self.subTest(grain=grain):
                self.assertEqual(read_measure(shown(Fraction(GREAT, grain)), grain), GREAT)
                for more in (1, 2, grain, GREAT, 9 * GREAT):
                    self.assert_refused(NoText, read_measure, shown(Fraction(GREAT + more, grain)), grain)
        self.assert_refused(NoText, read_measure, "1" + "0" * 30, 2)
        self.assert_refused(NoText, read_measure, "9" * 31, 1)
        self.assert_refused(NoText, read_measure, "9" * 32, 1)
        self.assert_refused(NoText, read_measure, "1" * 5000, 1)

    def test_each_refusal(self):
        for text, grain in (
            # Other signs.
            ("", 4), (" ", 4), ("-", 4), ("-1", 4), ("+1", 4), ("1 ", 4), (" 1", 4), ("1+ 1/2", 4), ("1 +1/2", 4),
            ("1/ 2", 4), ("1 /2", 4), ("1\n", 4), ("1/2\n", 4), ("\t1", 4), ("a", 4), ("1+a", 4), ("1/a", 4),
            ("a/2", 4),
            ("1.5", 4), ("1:2", 4), ("1-1/2", 4), ("0x1", 4), ("1e1", 4), ("-1/2", 4), ("1/-2", 4), ("-1/-2", 4),
            # Something lacks or is there twice.
            ("/", 4), ("+", 4), ("1/", 4), ("/2", 4), ("+1/2", 4), ("1+", 4), ("1+/2", 4), ("1+1/", 4), ("1/2+", 4),
            ("1+1", 4), ("2+0", 4), ("1/2+1", 4), ("1/4+1/4", 4), ("1/4+1/2", 4), ("1+1+1/2", 4), ("1+1/4+1/4", 4),
            ("1/1/2", 4), ("1//2", 4), ("1++1/2", 4), ("1/2/", 4), ("1+1/2/1", 4), ("1/2/1", 4), ("0+0", 4),
            # Noughts ahead.
            ("00", 4), ("01", 4), ("01/2", 4), ("1/02", 4), ("01+1/2", 4), ("1+01/2", 4), ("1+1/02", 4), ("00+1/2", 4),
            # A W of 0 ahead of a +, a T of 0, a B of 0.
            ("0+1/2", 4), ("0+3/4", 4), ("0/4", 4), ("0/1", 4), ("0/2", 4), ("1+0/4", 4), ("1+0/1", 4), ("1/0", 4),
            ("0/0", 4), ("1+1/0", 4), ("1+0/0", 4),
            # Not in lowest terms, or not less than one.
            ("2/4", 4), ("1+2/4", 4), ("2/2", 4), ("4/4", 4), ("1/1", 4), ("1+1/1", 4), ("5/4", 4), ("3/2", 4),
            ("8/4", 4),
            ("1+5/4", 4), ("1+4/4", 4), ("7/1", 4), ("2/6", 6), ("3/6", 6), ("10/1000", 1000), ("1+250/1000", 1000),
            # A B that does not divide the grain.
            ("1/3", 4), ("2/3", 4), ("1/8", 4), ("1+1/3", 4), ("1/5", 4), ("3/8", 4), ("1/1000", 4), ("1/2", 1),
            ("1/2", 3), ("1+1/2", 997), ("1/4", 6), ("1/" + "9" * 31, 4), ("1/" + "9" * 40, 4), ("9" * 40 + "/4", 4),
        ):
            with self.subTest(text=text[:40], grain=grain):
                self.assert_refused(NoText, read_measure, text, grain)

    def test_no_texts(self):
        for place, thing in enumerate(NO_TEXTS):
            with self.subTest(place=place):
                self.assert_refused(NoText, read_measure, thing, 4)

    def test_every_short_text(self):
        """All texts of a few signs: just those are read that show some number of pieces."""
        for grain in (1, 2, 4, 6, 12):
            right = {shown(Fraction(pieces, grain)): pieces for pieces in range(grain * 1000)}
            for length in range(1, 6):
                for signs in itertools.product("0123/+", repeat=length):
                    text = "".join(signs)
                    told = None
                    try:
                        told = read_measure(text, grain)
                    except NoText:
                        pass
                    expected = right.get(text)
                    if re.fullmatch("[1-9][0-9]{3,}", text):
                        expected = int(text) * grain
                    if told != expected:
                        self.fail((text, grain, told, expected))


class Amounts(MeasureCase):
    """Point 94."""

    def test_shown(self):
        for amounts, text in (
            ({}, "-"), ({"room": 7}, "room:1+3/4"), ({"coin": 12}, "coin:12"),
            ({"room": 2, "coin": 3}, "coin:3 room:1/2"),
            ({"coin": 3, "room": 2}, "coin:3 room:1/2"),
            ({"room": 4, "hand": 8, "coin": 1, "ale": 1}, "ale:1/1000 coin:1 hand:1+1/3 room:1"),
            ({"coin": GREAT}, f"coin:{GREAT}"), ({"coin": 40 * GREAT}, f"coin:{40 * GREAT}"),
        ):
            with self.subTest(text=text):
                handed, grains = dict(amounts), dict(GRAINS)
                self.assertEqual(show_amounts(amounts, grains), text)
                self.assertEqual((amounts, grains), (handed, GRAINS))

    def test_the_alphabet_of_the_wares(self):
        grains = {ware: 2 for ware in ("b", "aa", "a", "ab", "zzzzzzzz", "c")}
        for wares in itertools.permutations(("b", "aa", "a", "ab", "zzzzzzzz")):
            amounts = {ware: len(ware) for ware in wares}
            self.assertEqual(show_amounts(amounts, grains), "a:1/2 aa:1 ab:1 b:1/2 zzzzzzzz:4")

    def test_read(self):
        for text, amounts in (
            ("-", {}), ("room:1+3/4", {"room": 7}), ("coin:12", {"coin": 12}),
            ("room:1/2 coin:3", {"room": 2, "coin": 3}),
            ("coin:3 room:1/2", {"room": 2, "coin": 3}),
            ("room:1 hand:1+1/3 ale:1/1000 coin:1", {"room": 4, "hand": 8, "coin": 1, "ale": 1}),
            (f"coin:{GREAT}", {"coin": GREAT}),
        ):
            with self.subTest(text=text):
                grains = dict(GRAINS)
                self.assertEqual(read_amounts(text, grains), amounts)
                self.assertEqual(grains, GRAINS)
        self.assertEqual(read_amounts("-", {}), {})

    def test_no_texts(self):
        for place, thing in enumerate(NO_TEXTS):
            with self.subTest(place=place):
                self.assert_refused(NoText, read_amounts, thing, GRAINS)

    def test_refused(self):
        for text, refusal in (
            # A word without a :, wherever it stands, goes ahead of all else.
            ("", NoText), (" ", NoText), ("room", NoText), ("- ", NoText), (" -", NoText), ("--", NoText),
            ("- -", NoText),
            ("-\n", NoText), ("room:1 -", NoText), ("- room:1", NoText), ("gold:1 room", NoText),
            ("room gold:1", NoText),
            ("gold:x :: room:1 coin", NoText), ("room:1  coin:1", NoText), (" room:1", NoText), ("room:1 ", NoText),
            ("gold:1  gold:1", NoText), (" gold:1", NoText), ("gold:1 ", NoText), ("room:1 coin:x ale", NoText),
            # No such ware.
            ("gold:1", NoWare), (":1", NoWare), (":", NoWare), ("Room:1", NoWare), ("-:1", NoWare),
            ("\nroom:1", NoWare),
            ("room\t:1", NoWare), ("gold:x", NoWare), ("gold:", NoWare), ("room:1 gold:1", NoWare), ("gold:0", NoWare),
            ("room:1\tcoin:1 gold:1", NoText), ("::", NoWare), ("gold:1 gold:1", NoWare), ("gold:1 room:x", NoWare),
            ("room:1 gold:x coin:x", NoWare), ("room:1 gold:1 room:1", NoWare), ("roo:1", NoWare), ("roomm:1", NoWare),
            # The ware stood in a word ahead.
            ("room:1 room:1", NoText), ("room:1 room:2", NoText), ("room:1 coin:1 room:1", NoText),
            ("room:1 room:1 gold:1", NoText), ("room:1 room:x gold:1", NoText),
            # The measure is none or is 0.
            ("room:", NoText), ("room:0", NoText), ("room:x", NoText), ("room:2/4", NoText), ("room:1/3", NoText),
            ("room::1", NoText), ("room:1:", NoText), ("room:1:1", NoText), ("coin:1/2", NoText), ("room:-1", NoText),
            (f"coin:{GREAT + 1}", NoText), ("room:1\n", NoText), ("room:1\ncoin:1", NoText), ("room:x gold:1", NoText),
            ("room:0 gold:1", NoText), ("coin:1 room:0 gold:1", NoText), ("room:0 coin:1", NoText), ("room:-", NoText),
            ("coin:01", NoText), ("coin:00", NoText), ("room:1,coin:1", NoText),
        ):
            with self.subTest(text=text):
                grains = dict(GRAINS)
                self.assert_refused(refusal, read_amounts, text, grains)
                self.assertEqual(grains, GRAINS)
        self.assert_refused(NoWare, read_amounts, "room:1", {})

    def test_what_is_ahead_of_the_first_colon_names_the_ware(self):
        # Grains are handed on as they stand, so a ware may be any text without a : here.
        self.assertEqual(read_amounts(":1 Room:2", {"": 1, "Room": 2}), {"": 1, "Room": 4})
        self.assert_refused(NoWare, read_amounts, "a:b:1", {"a:b": 1})

    def test_read_back_as_shown(self):
        draws = random.Random(94)
        for time in range(500):
            wares = draws.sample(["a", "ale", "b", "coin", "room", "zz"], draws.randint(1, 6))
            grains = {ware: draws.choice((1, 2, 4, 60, 997, 1000, draws.randint(1, 1000))) for ware in wares}
            amounts = {ware: draws.choice((1, draws.randint(1, 9999), draws.randint(1, GREAT), GREAT))
                       for ware in draws.sample(wares, draws.randint(0, len(wares)))}
            with self.subTest(grains=grains, amounts=amounts):
                text = show_amounts(amounts, grains)
                words = [f"{ware}:{shown(Fraction(amounts[ware], grains[ware]))}" for ware in sorted(amounts)]
                self.assertEqual(text, " ".join(words) or "-")
                self.assertEqual(read_amounts(text, grains), amounts)
                draws.shuffle(words)
                self.assertEqual(read_amounts(" ".join(words) or "-", grains), amounts)

    def test_every_short_text(self):
        """All texts of a few signs, against the words of the document taken one by one."""
        grains = {"a": 1, "b": 2}
        for length in range(1, 7):
            for signs in itertools.product("ac:1 -", repeat=length):
                text = "".join(signs)
                try:
                    told = read_amounts(text, grains)
                except TreeError as error:
                    told = type(error)
                if told != self.plainly_read(text):
                    self.fail((text, told, self.plainly_read(text)))

    def plainly_read(self, text):
        if text == "-":
            return {}
        words = text.split(" ")
        if not all(":" in word for word in words):
            return NoText
        told = {}
        for word in words:
            ware, measure = word.split(":", 1)
            if ware not in ("a", "b"):
                return NoWare
            if ware in told or not re.fullmatch("1+", measure):
                return NoText
            told[ware] = int(measure)
        return told

    def test_what_is_told_is_the_askers_own(self):
        grains = dict(GRAINS)
        one, other = read_amounts("room:1", grains), read_amounts("room:1", grains)
        one["room"] = 99
        self.assertEqual((other, grains), ({"room": 4}, GRAINS))
        nothing = read_amounts("-", grains)
        nothing["room"] = 1
        self.assertEqual((read_amounts("-", grains), copy.deepcopy(grains)), ({}, GRAINS))


if __name__ == "__main__":
    unittest.main()
