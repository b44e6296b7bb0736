"""Points 95 to 98: the desk, its lines and its answers."""

import copy
import unittest

from quotatree.desk import Desk, show_audit
from quotatree.errors import (
    NoAmount, NoHold, NoHouse, NoMove, NoName, NoNumber, NoPromise, NoRow, NoText, NoWare, Taken, TooDeep, TooMany,
    TreeError,
)

VAST = 10 ** 5000
GREAT = 10 ** 30
NO_TEXTS = (
    None, True, False, 0, 1, -1, VAST, 1.5, b"turn", [], ["turn"], (), ("turn",), {}, {"turn": 1}, {"turn"}, len,
    object(), Desk,
)
FIRST = "first top 1 | room:4 coin:1 spare:1000 | room:1/2 | room:5 coin:12 spare:1"
FOUNDINGS = (
    "found mill top 2 | room:1 coin:3 | room:2+1/2 coin:6", "found loft mill 1 | room:1/2 | room:1+1/4",
    "found inn top 3 | coin:2 room:3/4 | room:3 coin:8",
)
# A line of each form that the desk of full() answers, and FIRST.
LINES = (
    "found barn inn 1000 | - | coin:1", "ask inn 9 - | room:1/4", "grow 2 | coin:1", "back 1", "turn", "move loft inn",
    "use top", "own mill", "promised mill", "most mill room 0", "numbers", "tell 1", "share room | mill:1 inn:0",
    "audit",
)


def houses():
    """top above mill (above loft) and inn; loft's limit does not name coin. In rooms four pieces are one."""
    desk = Desk()
    for line in (FIRST,) + FOUNDINGS:
        assert desk.say(line) == "ok"
    return desk


def full():
    """mill's limit in rooms is reached by a loan and a promised hold, inn's in coin by a loan of rank 9."""
    desk = houses()
    for line in ("ask mill 5 - | room:1+1/2", "ask mill 0 - | room:1", "ask inn 9 4 | coin:8"):
        desk.say(line)
    return desk


def all_told(desk):
    """All that is to be seen of a desk, and of what it would answer next; of one that isn't begun, what begins it."""
    later = copy.deepcopy(desk)
    try:
        desk.say("numbers")
    except NoRow:
        return [later.say(line) for line in (FIRST,) + FOUNDINGS] + all_told(later)
    names = [name for name in ("top", "mill", "loft", "inn", "barn", "shed") if is_house(desk, name)]
    lines = ["numbers", "audit"] + [f"{word} {name}" for word in ("use", "own", "promised") for name in names]
    lines += [f"most {name} {ware} {rank}" for name in names for ware in wares_of(desk) for rank in (0, 9)]
    lines += [f"share {ware} | " + " ".join(f"{name}:1000" for name in names) for ware in wares_of(desk)]
    lines += [f"tell {number}" for number in desk.say("numbers").split(" ") if number != "-"]
    return [desk.say(line) for line in lines] + [later.say(f"ask top 0 - | {wares_of(desk)[0]}:1"), later.say("turn"),
                                                later.say("audit")]


def is_house(desk, name):
    try:
        return bool(desk.say(f"use {name}"))
    except NoHouse:
        return False


def wares_of(desk):
    return [ware for ware in ("coin", "room", "spare") if is_ware(desk, ware)]


def is_ware(desk, ware):
    try:
        return bool(desk.say(f"share {ware} | -"))
    except NoWare:
        return False


class DeskCase(unittest.TestCase):
    def assert_refused(self, desk, refusal, line):
        before = all_told(desk)
        with self.assertRaises(TreeError) as caught:
            desk.say(line)
        self.assertIs(type(caught.exception), refusal)
        self.assertEqual(all_told(desk), before)
        return caught.exception

    def assert_each_refused(self, desk, lines):
        for line, refusal in lines:
            with self.subTest(line=line):
                self.assert_refused(desk, refusal, line)


class Lines(DeskCase):
    """Point 95."""

    def test_each_form_is_answered(self):
        words = {"found", "ask", "grow", "back", "turn", "move", "use", "own", "promised", "most", "numbers", "tell",
                 "share", "audit"}
        self.assertEqual({line.split(" ")[0] for line in LINES}, words)
        for line in LINES:
            with self.subTest(line=line):
                answer = full().say(line)
                self.assertIs(type(answer), str)
        self.assertEqual(Desk().say(FIRST), "ok")

    def test_no_texts(self):
        for place, thing in enumerate(NO_TEXTS):
            with self.subTest(place=place):
                self.assert_refused(full(), NoRow, thing)
                self.assert_refused(Desk(), NoRow, thing)

    def test_a_word_or_a_part_more_or_less(self):
        desk = full()
        for line in LINES:
            first, *rest = line.split(" | ")
            words = first.split(" ")
            wrong = [[first, *rest, part] for part in ("-", "", "room:1", "x")] + [[first, "-", *rest]]
            wrong += [[first + end, *rest] for end in (" ", " top", " 1", " -", "  ")]
            wrong += [[" " + first, *rest], [first.replace(" ", "  ", 1) if " " in first else first + " ", *rest]]
            wrong += [[" ".join(words[:-1]), *rest], [words[0].upper() + first[len(words[0]):], *rest]]
            wrong += [[first, *rest[:-1]]] if rest else []
            for parts in wrong:
                with self.subTest(line=" | ".join(parts)):
                    self.assert_refused(desk, NoRow, " | ".join(parts))

    def test_first_with_a_word_or_a_part_more_or_less(self):
        for line in (
            "first", "first top", "first top 1", "first top 1 | room:4", "first top 1 | room:4 | -",
            "first top | room:4 | - | -", "first top 1 1 | room:4 | - | -", "first top 1 | room:4 | - | - | -",
            "first  top 1 | room:4 | - | -", " first top 1 | room:4 | - | -", "first top 1  | room:4 | - | -",
            "First top 1 | room:4 | - | -", "first top 1 | room:4 | - | - | ", "first top 1 |room:4 | - | -",
            "first top 1| room:4 | - | -", "first top 1 | room:4 | -| -", "first top 1 | room:4 | | -",
        ):
            with self.subTest(line=line):
                self.assert_refused(Desk(), NoRow, line)

    def test_other_lines(self):
        self.assert_each_refused(full(), [(line, NoRow) for line in (
            "", " ", "  ", "|", " | ", " |", "| ", "-", "turns", "tur", "Turn", "turn\n", "\nturn", "turn\t", "turn |",
            "turn | ", " | turn", "turn|", "| turn", "hold", "refused", "names", "line top", "rows", "do turn",
            "shares",
            "ask", "share room", "use", "use\ttop", "use\ntop", "use top top", "numbers top", "audit -", "audit | -",
            "ask inn 0 -|coin:1", "ask inn 0 - |coin:1", "ask inn 0 -| coin:1", "ask inn 0 - || coin:1",
            "ask inn 0 - | coin:1 | coin:1", "ask inn 0 - coin:1", "ask inn 0 | coin:1", "ask inn | coin:1",
            "ask inn 0 -\t|\tcoin:1", "grow 1", "grow 1 coin:1", "grow | coin:1", "found barn inn 1 | -",
            "found barn inn | - | -", "found barn inn 1 | - | - | -", "share | mill:1", "share room mill:1",
            "most mill room", "most mill room 0 0", "most mill", "tell", "tell 1 1", "back", "back 1 | -", "move loft",
            "move loft inn inn", "move loft | inn",
        )])

    def test_words_without_signs(self):
        self.assert_each_refused(full(), (
            ("use ", NoHouse), ("own ", NoHouse), ("promised ", NoHouse), ("tell ", NoText), ("back ", NoText),
            ("ask  0 - | coin:1", NoHouse), ("ask inn  - | coin:1", NoText), ("ask inn 0  | coin:1", NoText),
            ("grow  | coin:1", NoText), ("found  inn 1 | - | -", NoName), ("found barn  1 | - | -", NoHouse),
            ("found barn inn  | - | -", NoText), ("move  inn", NoHouse), ("move loft ", NoHouse), ("move  ", NoHouse),
            ("most  room 0", NoHouse), ("most mill  0", NoWare), ("most mill room ", NoText), ("share  | -", NoWare),
            ("most   0", NoHouse),
        ))
        self.assert_refused(Desk(), NoName, "first  1 | room:4 | - | -")
        self.assert_refused(Desk(), NoText, "first top  | room:4 | - | -")

    def test_parts_are_parted_from_the_left(self):
        # A blank belongs to one such three alone: here the second part is `| coin:1`, and so on.
        self.assert_each_refused(full(), (
            ("ask inn 0 - | | coin:1", NoText), ("grow 1 | | coin:1", NoText), ("share room | | mill:1", NoText),
            ("found barn inn 1 | - | | coin:1", NoText), ("found barn inn 1 | | - | coin:1", NoText),
            ("found barn inn 1 | | | -", NoText), ("found barn inn 1 | | | | -", NoText),
            ("found barn inn 1 | | | | | -", NoRow), ("use | | top", NoRow),
            ("turn | |", NoRow), ("ask inn 0 - |  | coin:1", NoRow), ("ask inn 0 - | coin:1 |", NoText),
            ("ask inn 0 - | coin:1 | ", NoRow), ("ask inn 0 - | ", NoText), ("ask inn 0 - |  ", NoText),
            ("grow 1 | ", NoText), ("ask inn 0 - |  coin:1", NoText), ("ask inn 0 - | coin:1 ", NoText),
            ("share room | ", NoText), ("found barn inn 1 |  | -", NoText), ("found barn inn 1 | - | ", NoText),
        ))
        self.assert_refused(Desk(), NoText, "first top 1 | | | - | -")
        self.assert_refused(Desk(), NoRow, "first top 1 | | | | | - | -")

    def test_before_the_desk_is_begun(self):
        for line in LINES + FOUNDINGS + ("", "x", "use", "tell x", "ask top x x | x", "share gold | x"):
            with self.subTest(line=line):
                self.assert_refused(Desk(), NoRow, line)

    def test_first_once_it_is_begun(self):
        for desk in (houses(), full()):
            self.assert_each_refused(desk, [(line, NoRow) for line in (
                FIRST, "first other 1 | gold:1 | - | -", "first Top x | x | x | x", "first top 0 | - | - | -", "first",
                "first top 1", "first top 1 | - | - | - | -",
            )])

    def test_a_refused_first_begins_no_desk(self):
        desk = Desk()
        for line in ("first top 0 | room:4 | - | -", "first Top 1 | room:4 | - | -", "first top 1 | room:4 | x | -"):
            with self.assertRaises(TreeError):
                desk.say(line)
            self.assert_refused(desk, NoRow, "numbers")
        self.assertEqual(desk.say(FIRST), "ok")
        self.assertEqual(desk.say("audit"), "true 1")


class Firsts(DeskCase):
    """Of point 96: what begins a desk."""

    def test_begun(self):
        for line, lines in (
            ("first top 1 | room:1 | - | -", {"use top": "-", "most top room 9": "0", "audit": "true 1"}),
            ("first a 1000 | room:1000 ale:1 | - | ale:7 room:1/1000",
             {"most a room 0": "1/1000", "most a ale 0": "7"}),
            ("first zzzzzzzz 7 | b:2 a:3 f:1 c:999 e:1 d:1 | a:1/3 | a:2/3 b:1/2",
             {"most zzzzzzzz a 0": "2/3", "most zzzzzzzz b 0": "1/2", "most zzzzzzzz c 0": "0"}),
            (f"first top 1 | coin:1 | - | coin:{GREAT}", {"most top coin 0": str(GREAT)}),
            ("first first 1 | first:4 | - | first:1/4", {"most first first 0": "1/4"}),
        ):
            with self.subTest(line=line):
                desk = Desk()
                self.assertEqual(desk.say(line), "ok")
                self.assertEqual({line: desk.say(line) for line in lines}, lines)

    def test_refused(self):
        for line, refusal in (
            # The weight as a number.
            ("first top x | x | x | x", NoText), ("first top 01 | room:4 | - | -", NoText),
            ("first top - | room:4 | - | -", NoText), ("first top -1 | room:4 | - | -", NoText),
            (f"first top {'1' * 32} | room:4 | - | -", NoText), ("first Top x | - | gold:1 | -", NoText),
            # GRAINS.
            ("first top 1 | room | gold:1 | -", NoText), ("first top 1 | room:4 coin | gold:1 | -", NoText),
            ("first top 1 | room:4  coin:1 | gold:1 | -", NoText), ("first top 1 |  room:4 | gold:1 | -", NoText),
            ("first top 1 | room:4  | gold:1 | -", NoText), ("first top 1 |  | gold:1 | -", NoText),
            ("first top 1 | room:4 room:4 | gold:1 | -", NoText),
            ("first top 1 | room:4 a:1 room:5 | gold:1 | -", NoText),
            ("first top 1 | room:0 | gold:1 | -", NoText), ("first top 1 | room:1001 | gold:1 | -", NoText),
            ("first top 1 | room: | gold:1 | -", NoText), ("first top 1 | room:x | gold:1 | -", NoText),
            ("first top 1 | room:04 | gold:1 | -", NoText), ("first top 1 | room:1/2 | gold:1 | -", NoText),
            ("first top 1 | room:-1 | gold:1 | -", NoText), ("first top 1 | room:+1 | gold:1 | -", NoText),
            ("first top 1 | room:- | gold:1 | -", NoText), ("first top 1 | room:4:4 | gold:1 | -", NoText),
            ("first top 1 | -- | gold:1 | -", NoText), ("first top 1 | - - | gold:1 | -", NoText),
            ("first top 1 | - room:4 | gold:1 | -", NoText), ("first top 1 | room:4 - | gold:1 | -", NoText),
            (f"first top 1 | room:{GREAT} | gold:1 | -", NoText),
            ("first top 1 | room:1000 a:1001 | gold:1 | -", NoText),
            ("first Top 1 | room:0 | - | -", NoText), ("first top 0 | :4 :5 | - | -", NoText),
            # The promise, and then the limit, by these grains.
            ("first Top 0 | room:4 | gold:1 | x", NoWare), ("first Top 0 | - | room:1 | x", NoWare),
            ("first Top 0 | room:4 | room | x", NoText), ("first Top 0 | room:4 | room:1/8 | gold:1", NoText),
            ("first Top 0 | room:4 | - | gold:1", NoWare), ("first Top 0 | room:4 | room:1 | x", NoText),
            ("first Top 0 | room:4 | - | room:1/3", NoText), ("first Top 0 | room:4 | - | room:0", NoText),
            (f"first Top 0 | room:4 | - | room:{GREAT}", NoText), ("first Top 0 | Room:4 | Room:1/8 | -", NoText),
            # Then as the book refuses it: the wares, the name, the weight, the promise.
            ("first Top 0 | - | - | -", NoWare), ("first Top 0 | Room:4 | Room:1 | -", NoWare),
            ("first Top 0 | a:1 b:1 c:1 d:1 e:1 f:1 g:1 | a:1 | -", NoWare), ("first Top 0 | :4 | :1 | -", NoWare),
            ("first Top 0 | roomrooms:4 | - | -", NoWare), ("first Top 0 | room:4 | room:1 | -", NoName),
            ("first toptoptop 1 | room:4 | - | -", NoName), ("first - 1 | room:4 | - | -", NoName),
            ("first top 0 | room:4 | room:1 | -", NoNumber), ("first top 1001 | room:4 | room:1 | -", NoNumber),
            (f"first top {'9' * 31} | room:4 | - | -", NoNumber),
            ("first top 1 | room:4 coin:1 | room:1 coin:2 | room:3/4 coin:1", NoPromise),
        ):
            with self.subTest(line=line):
                desk = Desk()
                error = self.assert_refused(desk, refusal, line)
                self.assert_refused(desk, NoRow, "audit")
                if refusal is NoPromise:
                    self.assertEqual((error.house, error.ware), ("top", "coin"))


class Reading(DeskCase):
    """Of point 96: the other lines, read from the left, and then refused as the book refuses them."""

    def test_found(self):
        self.assert_each_refused(full(), (
            ("found Barn nobody x | x | x", NoText), ("found Barn nobody - | gold:1 | x", NoText),
            ("found Barn nobody 0 | gold:1 | x", NoWare), ("found Barn nobody 0 | room:1/8 | gold:1", NoText),
            ("found Barn nobody 0 | - | gold:1", NoWare), ("found Barn nobody 0 | - | coin:1/2", NoText),
            ("found Barn nobody 0 | room:99 | -", NoName), ("found mill nobody 0 | room:99 | -", Taken),
            ("found barn nobody 0 | room:99 | -", NoHouse), ("found barn inn 0 | room:99 | -", NoNumber),
            ("found barn inn 1001 | room:99 | -", NoNumber), ("found barn inn 1 | room:99 | -", NoPromise),
            ("found barn inn 00 | - | -", NoText), (f"found barn inn {'1' * 32} | - | -", NoText),
            ("found barn inn 1 | room:1 room:1 | -", NoText), ("found barn inn 1 | - | room:0", NoText),
        ))
        error = self.assert_refused(full(), NoPromise, "found barn loft 1 | room:1/4 coin:1 | room:1/4 coin:1")
        self.assertEqual((error.house, error.ware), ("loft", "coin"))

    def test_ask(self):
        self.assert_each_refused(full(), (
            ("ask nobody x x | x", NoText), ("ask nobody - - | gold:1", NoText), ("ask nobody 0 x | gold:1", NoText),
            ("ask nobody 10 00 | gold:1", NoText), ("ask nobody 10 0 | gold:1", NoWare),
            ("ask nobody 10 0 | coin:1/2", NoText), ("ask nobody 10 0 | coin:1 coin", NoText),
            ("ask nobody 10 0 | -", NoHouse), ("ask mill 10 0 | -", NoAmount), ("ask mill 10 0 | room:99", NoNumber),
            ("ask mill 9 0 | room:99", NoNumber), ("ask mill 9 1001 | room:99", NoNumber),
            ("ask - 9 - | room:1", NoHouse),
            ("ask mill 0 - | -", NoAmount), (f"ask mill 0 - | coin:{GREAT + 1}", NoText),
            ("ask mill 01 - | coin:1", NoText),
            ("ask mill 0 -- | coin:1", NoText), ("ask mill 0 None | coin:1", NoText),
            ("ask mill 0 -1 | coin:1", NoText),
            (f"ask mill {'9' * 31} {'9' * 31} | coin:1", NoNumber), (f"ask mill {'9' * 32} - | coin:1", NoText),
            (f"ask mill 0 {'9' * 32} | coin:1", NoText), ("ask mill -1 - | coin:1", NoText),
        ))

    def test_grow(self):
        self.assert_each_refused(full(), (
            ("grow x | gold:1", NoText), ("grow - | gold:1", NoText), ("grow 99 | gold:1", NoWare),
            ("grow 99 | coin:0", NoText), ("grow 99 | -", NoHold), ("grow 0 | coin:1", NoHold),
            ("grow 1 | -", NoAmount),
            ("grow 01 | coin:1", NoText), ("grow 1 | x", NoText), (f"grow {'9' * 31} | coin:1", NoHold),
            (f"grow {'9' * 32} | coin:1", NoText),
        ))

    def test_back_and_move(self):
        self.assert_each_refused(full(), (
            ("back x", NoText), ("back -", NoText), ("back 01", NoText), ("back 0", NoHold), ("back 99", NoHold),
            ("back 1.0", NoText), ("back -1", NoText), ("move nobody nobody", NoHouse), ("move mill nobody", NoHouse),
            ("move nobody mill", NoHouse), ("move top mill", NoMove), ("move mill loft", NoMove),
            ("move mill top", NoMove),
            ("move mill mill", NoMove), ("move - -", NoHouse), ("move 1 2", NoHouse), ("move Mill inn", NoHouse),
        ))
        desk = full()
        desk.say("found barn top 1 | coin:3 | coin:3")
        error = self.assert_refused(desk, NoPromise, "move barn loft")
        self.assertEqual((error.house, error.ware), ("loft", "coin"))

    def test_too_many_and_too_deep(self):
        desk = Desk()
        desk.say(FIRST)
        names = [one + other for one in "abcd" for other in "abcdefghij"]
        for place, name in enumerate(names[:11]):
            desk.say(f"found {name} {names[place - 1] if place else 'top'} 1 | - | -")
        self.assert_refused(desk, TooDeep, f"found deep {names[10]} 1 | - | -")
        for name in names[11:39]:
            desk.say(f"found {name} top 1 | - | -")
        self.assert_refused(desk, TooMany, f"found many {names[10]} 1 | - | -")
        self.assert_refused(desk, TooDeep, f"move {names[20]} {names[10]}")

    def test_questions(self):
        self.assert_each_refused(full(), (
            ("use nobody", NoHouse), ("use Top", NoHouse), ("use -", NoHouse), ("own nobody", NoHouse),
            ("promised nobody", NoHouse), ("most nobody gold x", NoText), ("most nobody gold -", NoText),
            ("most nobody gold 10", NoHouse), ("most mill gold 10", NoWare), ("most mill Room 10", NoWare),
            ("most mill room 10", NoNumber), ("most mill room 00", NoText), (f"most mill room {'9' * 31}", NoNumber),
            ("tell x", NoText), ("tell -", NoText), ("tell 00", NoText), ("tell 0", NoHold), ("tell 99", NoHold),
            (f"tell {'9' * 31}", NoHold), (f"tell {'9' * 32}", NoText),
        ))

    def test_share(self):
        self.assert_each_refused(full(), (
            ("share gold | x", NoWare), ("share gold | nobody:1", NoWare), ("share Room | -", NoWare),
            ("share - | -", NoWare), ("share mill | mill:1", NoWare), ("share room | mill", NoText),
            ("share room | nobody:1 mill", NoText), ("share room | nobody:1 mill:x", NoText),
            ("share room | mill:", NoText),
            ("share room | nobody:1 nobody:1", NoText), ("share room | mill:1 inn:1 mill:2", NoText),
            ("share room | mill:0 mill:0", NoText), ("share room | nobody:1/8", NoText),
            ("share room | mill:2/4", NoText),
            ("share coin | nobody:1/2", NoText), ("share room | mill:1  inn:1", NoText),
            ("share room |  mill:1", NoText),
            ("share room | mill:1 ", NoText), ("share room | - mill:1", NoText), ("share room | --", NoText),
            (f"share coin | mill:{GREAT + 1}", NoText), ("share room | mill:-", NoText),
            ("share room | mill:1:1", NoText),
            ("share room | nobody:1", NoHouse), ("share room | mill:1 nobody:0", NoHouse), ("share room | :1", NoHouse),
            ("share room | Mill:1", NoHouse), ("share room | -:1", NoHouse), ("share room | room:1", NoHouse),
        ))


class Answers(DeskCase):
    """Point 97."""

    def test_ok(self):
        desk = Desk()
        self.assertEqual([desk.say(line) for line in (FIRST,) + FOUNDINGS], ["ok"] * 4)
        self.assertEqual(desk.say("move loft inn"), "ok")
        self.assertEqual(desk.say("found barn loft 1000 | - | -"), "ok")

    def test_ask(self):
        desk = houses()
        self.assertEqual(desk.say("ask mill 0 - | room:1"), "1 promised")
        self.assertEqual(desk.say("ask mill 0 7 | room:1/4"), "2 borrowed")
        self.assertEqual(desk.say("ask inn 1 - | room:3"), "3 borrowed")
        # 17 pieces of room are held by now; three of mill's promise in coin are left.
        self.assertEqual(desk.say("ask top 0 - | room:1/2"), "4 promised")
        self.assertEqual(desk.say("ask loft 5 - | room:3/4"), "5 borrowed | 3 inn top room")
        self.assertEqual(desk.say("ask mill 9 1000 | coin:3 room:1+1/2"),
                         "6 borrowed | 2 mill mill room | 5 loft mill room")

    def test_ask_that_is_sure_ends_loans(self):
        desk = houses()
        self.assertEqual(desk.say("ask mill 9 - | coin:4"), "1 borrowed")
        self.assertEqual(desk.say("ask inn 9 - | coin:8"), "2 borrowed")
        self.assertEqual(desk.say("ask mill 0 1 | room:1/4 coin:3"), "3 promised | 1 mill mill coin")
        self.assertEqual(desk.say("ask inn 0 1 | coin:2"), "4 promised | 2 inn inn coin")

    def test_grow(self):
        desk = houses()
        for line in ("ask mill 4 - | room:3/4", "ask mill 0 - | room:1/2", "ask inn 1 - | room:2+3/4"):
            desk.say(line)
        self.assertEqual(desk.say("grow 1 | coin:1"), "1 promised | lifted -")
        self.assertEqual(desk.say("grow 3 | coin:1"), "3 borrowed | lifted -")
        # The first hold grows out of its promise; the second one fits by then.
        self.assertEqual(desk.say("grow 1 | room:1/2 coin:1"), "1 borrowed | lifted 2")
        self.assertEqual(desk.say("grow 2 | room:1/4"), "2 promised | lifted -")
        self.assertEqual(desk.say("grow 1 | room:1/2"), "1 borrowed | 3 inn top room | lifted -")

    def test_grow_that_lifts_several(self):
        desk = houses()
        for line in ("ask mill 4 - | room:1", "ask mill 0 - | room:1/4", "ask mill 0 - | room:1/2 coin:1"):
            desk.say(line)
        self.assertEqual(desk.say("grow 1 | room:1/4"), "1 borrowed | lifted 2 3")
        self.assertEqual(desk.say("numbers"), "1 2 3")

    def test_back(self):
        desk = houses()
        for line in ("ask mill 4 - | room:1", "ask mill 0 - | room:1/4", "ask mill 0 - | room:3/4",
                     "ask inn 0 - | coin:3"):
            desk.say(line)
        self.assertEqual(desk.say("back 4"), "lifted -")
        self.assertEqual(desk.say("back 1"), "lifted 2 3")
        self.assertEqual(desk.say("back 3"), "lifted -")
        self.assertEqual(desk.say("numbers"), "2")

    def test_turn(self):
        desk = houses()
        self.assertEqual(desk.say("turn"), "ended - | lifted -")
        for line in ("ask mill 4 1 | room:1", "ask mill 0 - | room:1/4", "ask inn 0 1 | coin:2", "ask inn 0 2 | coin:1",
                     "ask mill 0 2 | room:3/4"):
            desk.say(line)
        self.assertEqual(desk.say("turn"), "ended 1 3 | lifted 2 4 5")
        self.assertEqual(desk.say("turn"), "ended 4 5 | lifted -")
        self.assertEqual(desk.say("turn"), "ended - | lifted -")

    def assert_roomless(self, desk, line, answer):
        before = all_told(desk)
        self.assertEqual(desk.say(line), answer)
        rows = int(before[1].split(" ")[1])
        self.assertEqual(all_told(desk)[:-1], before[:1] + [f"true {rows + 1}"] + before[2:-1])

    def test_no_room(self):
        for line, answer in (
            ("ask mill 5 - | room:1/4", "refused mill room | 1 1+1/2 | 2 1"),
            ("ask mill 9 - | room:1+3/4", "refused mill room | 2 1"),
            ("ask loft 9 - | coin:1 room:1/4", "refused loft coin"),
            ("ask inn 9 1 | room:1 coin:1", "refused inn coin | 3 8"),
            ("ask top 9 - | coin:5", "refused top coin | 3 8"),
            ("ask inn 0 - | spare:1/1000", "refused inn spare"), ("grow 1 | room:1/4", "refused mill room | 2 1"),
            ("grow 2 | room:1/4", "refused mill room | 1 1+1/2"), ("grow 3 | coin:1", "refused inn coin"),
        ):
            with self.subTest(line=line):
                self.assert_roomless(full(), line, answer)

    def test_a_move_that_finds_no_room(self):
        desk = houses()
        for line in ("move loft top", "ask loft 0 - | room:1/2", "ask mill 0 - | room:1", "ask mill 0 - | room:1+1/4"):
            desk.say(line)
        self.assert_roomless(desk, "move loft mill", "refused mill room | 2 1 | 3 1+1/4")


class Questions(DeskCase):
    """Point 98."""

    def test_amounts(self):
        desk = full()
        self.assertEqual([desk.say(f"use {name}") for name in ("top", "mill", "loft", "inn")],
                         ["coin:8 room:2+1/2", "room:2+1/2", "-", "coin:8"])
        self.assertEqual([desk.say(f"own {name}") for name in ("top", "mill", "loft", "inn")],
                         ["-", "room:2+1/2", "-", "coin:8"])
        self.assertEqual([desk.say(f"promised {name}") for name in ("top", "mill", "loft", "inn")],
                         ["-", "room:1", "-", "-"])

    def test_most(self):
        desk = full()
        for line, answer in (
            ("most mill room 0", "0"), ("most mill room 5", "0"), ("most mill room 6", "1+1/2"),
            ("most mill coin 0", "4"),
            ("most loft room 0", "1/2"), ("most loft coin 9", "0"), ("most inn room 0", "2+1/2"),
            ("most inn coin 0", "2"),
            ("most top room 9", "4"), ("most top spare 0", "1"), ("most top room 0", "2+1/2"),
        ):
            with self.subTest(line=line):
                self.assertEqual(desk.say(line), answer)

    def test_numbers(self):
        desk = houses()
        self.assertEqual(desk.say("numbers"), "-")
        desk = full()
        self.assertEqual(desk.say("numbers"), "1 2 3")
        desk.say("back 2")
        self.assertEqual(desk.say("numbers"), "1 3")
        for time in range(12):
            desk.say("ask top 0 - | spare:1/1000")
        self.assertEqual(desk.say("numbers"), "1 3 4 5 6 7 8 9 10 11 12 13 14 15")

    def test_tell(self):
        desk = full()
        self.assertEqual(desk.say("tell 1"), "1 mill 5 - borrowed | room:1+1/2")
        self.assertEqual(desk.say("tell 2"), "2 mill 0 - promised | room:1")
        self.assertEqual(desk.say("tell 3"), "3 inn 9 4 borrowed | coin:8")
        desk.say("turn")
        desk.say("grow 1 | coin:2")
        self.assertEqual(desk.say("tell 3"), "3 inn 9 3 borrowed | coin:8")
        self.assertEqual(desk.say("tell 1"), "1 mill 5 - borrowed | coin:2 room:1+1/2")

    def test_share(self):
        desk = full()
        for line, answer in (
            ("share room | -", "-"), ("share coin | -", "-"), ("share room | inn:1", "inn 1 -"),
            ("share room | mill:1", "mill 0 mill"), ("share room | mill:0", "mill 0 -"),
            ("share room | top:5 inn:1/4", "inn 1/4 - | top 2+1/4 top"),
            ("share room | inn:1/4 top:5", "inn 1/4 - | top 2+1/4 top"),
            # By the weights 1 and 3: of the ten pieces that are left to top.
            ("share room | top:5 inn:5", "inn 1+7/8 top | top 5/8 top"),
            ("share coin | top:5 inn:5 mill:2", "inn 0 inn | mill 2 - | top 2 top"),
            ("share coin | mill:12 top:12", "mill 2+2/3 top | top 1+1/3 top"),
            ("share spare | top:1/2", "top 1/2 -"), ("share spare | top:3 inn:1/1000", "inn 0 inn | top 1 top"),
        ):
            with self.subTest(line=line):
                before = all_told(desk)
                self.assertEqual(desk.say(line), answer)
                self.assertEqual(all_told(desk), before)

    def test_shares_whose_bottom_does_not_divide_the_grain(self):
        desk = Desk()
        desk.say("first top 1 | room:4 | - | room:1/4")
        desk.say("found a top 2 | - | room:9")
        desk.say("found b top 5 | - | room:9")
        self.assertEqual(desk.say("share room | b:9 a:9"), "a 1/14 top | b 5/28 top")

    def test_audit(self):
        desk = Desk()
        desk.say(FIRST)
        self.assertEqual(desk.say("audit"), "true 1")
        count = 1
        for line in FOUNDINGS + ("ask mill 0 - | room:1", "ask mill 0 1 | room:9", "turn", "move loft inn",
                                 "move loft mill", "grow 1 | coin:1", "grow 1 | coin:9", "back 1"):
            desk.say(line)
            count += 1
            self.assertEqual(desk.say("audit"), f"true {count}")
        for line in ("use top", "numbers", "share room | -"):
            desk.say(line)
        self.assertEqual(desk.say("audit"), f"true {count}")

    def test_audit_of_rows_that_cannot_be(self):
        # No desk comes to such rows by its lines, so they are handed to the function that shows the audit.
        first = ("first", ["room"], "top", {}, {"room": 5}, 1)
        self.assertEqual(show_audit([first, ("turn", [], [])]), "true 2")
        self.assertEqual(show_audit([first, ("turn", [], []), ("turn", [1], [])]), "false 2")
        self.assertEqual(show_audit([("turn", [], []), first]), "false 0")

    def test_questions_change_nothing(self):
        desk = full()
        before = all_told(desk)
        for line in LINES[6:]:
            one, other = desk.say(line), desk.say(line)
            self.assertEqual(one, other)
            self.assertEqual(all_told(desk), before)


if __name__ == "__main__":
    unittest.main()
