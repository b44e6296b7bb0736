"""Points 7, 8 and 9: rows of deeds drawn from fixed seeds, held against sums of the test's own."""

import random
import unittest
from fractions import Fraction

from quotatree.errors import NoPromise, NoRoom, TreeError
from quotatree.hall import Hall

WARES = ["ale", "bread", "coin"]
NAMES = ["ash", "birch", "cedar", "elm", "fir", "hazel", "larch", "maple", "oak"]


def do(hall, deed):
    """The row, or what it was refused with."""
    try:
        return getattr(hall, deed[0])(*deed[1:])
    except NoRoom as error:
        return ("NoRoom", error.house, error.ware, error.holders)
    except NoPromise as error:
        return ("NoPromise", error.house, error.ware)
    except TreeError as error:
        return (type(error).__name__,)


def plus(one, other):
    return {ware: one.get(ware, 0) + other.get(ware, 0) for ware in list(one) + list(other)}


def total(many):
    told = {}
    for amounts in many:
        told = plus(told, amounts)
    return told


def is_within(one, other):
    return all(one[ware] <= other.get(ware, 0) for ware in one)


class Model:
    """A hall of plain dicts that looks at everything anew each time, by the words of the document."""

    def __init__(self, name, promise, cap):
        self.elders, self.promises, self.caps = {name: None}, {name: promise}, {name: cap}
        self.holds, self.last = {}, 0

    def line(self, name):
        return [] if name is None else [name] + self.line(self.elders[name])

    def beneath(self, at):
        return [name for name in self.elders if at in self.line(name)]

    def parts(self, holds, at, ware):
        return [(number, holds[number]["amounts"][ware]) for number in sorted(holds)
                if ware in holds[number]["amounts"] and at in self.line(holds[number]["house"])]

    def use(self, at):
        return total(hold["amounts"] for hold in self.holds.values() if at in self.line(hold["house"]))

    def promised(self, house, but=None):
        return total(hold["amounts"] for number, hold in self.holds.items()
                     if hold["house"] == house and hold["sure"] and number != but)

    def fits(self, house, amounts, but=None):
        return is_within(plus(amounts, self.promised(house, but)), self.promises[house])

    def lack(self, holds, line, amounts):
        for at in line:
            for ware in sorted(amounts):
                parts = self.parts(holds, at, ware)
                if sum(part for number, part in parts) + amounts[ware] > self.caps[at].get(ware, 0):
                    return (at, ware, parts)
        return None

    def make_room(self, house, amounts, rank, sure, but=None):
        """What is refused with, or None; and the claims."""
        others = {number: hold for number, hold in self.holds.items() if number != but}
        fast = {number: hold for number, hold in others.items()
                if hold["sure"] or (not sure and hold["rank"] >= rank)}
        lack = self.lack(fast, self.line(house), amounts)
        if lack:
            return ("NoRoom",) + lack, []
        given = []
        for number in sorted(set(others) - set(fast)):
            place = self.lack({**fast, number: others[number]}, self.line(house), amounts)
            if place:
                given.append((number, others[number]["house"], others[number]["amounts"]) + place[:2])
                self.holds.pop(number)
            else:
                fast[number] = others[number]
        return None, given

    def lift(self, house):
        lifted = []
        for number in sorted(self.holds):
            hold = self.holds[number]
            if hold["house"] == house and not hold["sure"] and self.fits(house, hold["amounts"]):
                hold["sure"] = True
                lifted.append(number)
        return lifted

    def found(self, name, elder, promise, cap, weight):
        for at in [name] + self.line(elder):
            promises = total([promise] + [self.promises[other] for other in self.elders if at in self.line(other)])
            limit = cap if at == name else self.caps[at]
            for ware in sorted(promises):
                if promises[ware] > limit.get(ware, 0):
                    return ("NoPromise", at, ware)
        self.elders[name], self.promises[name], self.caps[name] = elder, promise, cap
        return ("found", name, elder, promise, cap, weight)

    def ask(self, house, amounts, rank, turns):
        sure = self.fits(house, amounts)
        refusal, given = self.make_room(house, amounts, rank, sure)
        if refusal:
            return refusal
        self.last += 1
        self.holds[self.last] = {"house": house, "amounts": amounts, "rank": rank, "turns": turns, "sure": sure}
        return ("hold", self.last, house, amounts, rank, turns, sure, given)

    def grow(self, number, amounts):
        if number not in self.holds:
            return ("NoHold",)
        hold = self.holds[number]
        together = plus(hold["amounts"], amounts)
        sure = self.fits(hold["house"], together, number)
        refusal, given = self.make_room(hold["house"], together, hold["rank"], sure, number)
        if refusal:
            return refusal
        hold["amounts"], hold["sure"] = together, sure
        return ("grow", number, amounts, sure, given, self.lift(hold["house"]))

    def back(self, number):
        if number not in self.holds:
            return ("NoHold",)
        return ("back", number, self.lift(self.holds.pop(number)["house"]))

    def turn(self):
        for hold in self.holds.values():
            hold["turns"] = hold["turns"] and hold["turns"] - 1
        ended = sorted(number for number, hold in self.holds.items() if hold["turns"] == 0)
        for number in ended:
            self.holds.pop(number)
        return ("turn", ended, sorted(sum((self.lift(house) for house in self.elders), [])))

    def move(self, house, elder):
        if house in self.line(elder) or self.elders[house] in (None, elder):
            return ("NoMove",)
        new = [at for at in self.line(elder) if at not in self.line(house)]
        promises = total(self.promises[name] for name in self.beneath(house))
        for at in new:
            both = plus(promises, total(self.promises[name] for name in self.beneath(at)))
            for ware in sorted(both):
                if both[ware] > self.caps[at].get(ware, 0):
                    return ("NoPromise", at, ware)
        lack = self.lack(self.holds, new, self.use(house))
        if lack:
            return ("NoRoom",) + lack
        self.elders[house] = elder
        return ("move", house, elder)


def draw_amounts(draws, least, greatest):
    return {ware: draws.randint(least, greatest) for ware in draws.sample(WARES, draws.randint(1, 3))}


def draw_first(draws, names):
    return (names[0], draw_amounts(draws, 1, 3), {ware: draws.randint(15, 30) for ware in WARES})


def draw_deed(draws, names, founded, last):
    """A deed about the founded houses, or one that founds another of the names."""
    left = [name for name in names if name not in founded]
    word = draws.choice(["found"] * 5 + ["ask"] * 9 + ["grow"] * 4 + ["back"] * 2 + ["move"] * 5 + ["turn"])
    number = draws.randint(max(1, last - 8), last + 1)
    if word == "found" and left:
        cap = {ware: draws.randint(6, 20) for ware in draws.sample(WARES, draws.choice((2, 3, 3, 3)))}
        promise = {ware: draws.randint(1, 4) for ware in draws.sample(WARES, draws.randint(0, 2))}
        return ("found", draws.choice(left), draws.choice(founded), promise, cap, draws.randint(1, 9))
    if word == "grow":
        return ("grow", number, draw_amounts(draws, 1, 3))
    if word == "back":
        return ("back", number)
    if word == "move":
        return ("move",) + tuple(draws.sample(founded + founded[:1], 2))
    if word == "turn":
        return ("turn",)
    return ("ask", draws.choice(founded), draw_amounts(draws, 1, 6), draws.randint(0, 9), draws.choice((None, 1, 2, 5)))


def rows_of_deeds(seed, names=NAMES, count=60):
    """A hall, and one after another each deed with what the hall answered it."""
    draws = random.Random(seed)
    first = draw_first(draws, names)
    hall = Hall(WARES, *first)
    last = 0

    def deeds():
        nonlocal last
        for time in range(count):
            deed = draw_deed(draws, names, hall.names(), last)
            answer = do(hall, deed)
            last += answer[0] == "hold"
            yield deed, answer

    return first, hall, deeds()


class Limits(unittest.TestCase):
    """Point 7, and the rows themselves."""

    def check_sums(self, hall, model):
        holds = [hall.tell(number) for number in hall.numbers()]
        self.assertEqual(hall.names(), sorted(model.elders))
        for name in model.elders:
            line = model.line(name)
            self.assertEqual(hall.line(name), line)
            beneath = [hold for hold in holds if name in hall.line(hold[1])]
            use = total(hold[2] for hold in beneath)
            own = [hold for hold in holds if hold[1] == name]
            promised = total(hold[2] for hold in own if hold[5])
            self.assertEqual((hall.use(name), hall.own(name), hall.promised(name)),
                             (use, total(hold[2] for hold in own), promised))
            self.assertTrue(is_within(use, model.caps[name]))
            self.assertTrue(is_within(promised, model.promises[name]))
            self.assertTrue(is_within(total(model.promises[other] for other in model.beneath(name)), model.caps[name]))
            for hold in own:
                # Whatever fits is promised.
                self.assertTrue(hold[5] or not is_within(plus(promised, hold[2]), model.promises[name]))

    def test_rows_of_deeds(self):
        seen = {}
        for seed in range(120):
            first, hall, deeds = rows_of_deeds(seed)
            model = Model(*first)
            for deed, answer in deeds:
                with self.subTest(seed=seed, deed=deed):
                    self.assertEqual(answer, getattr(model, deed[0])(*deed[1:]))
                    told = [(number, hold["house"], hold["amounts"], hold["rank"], hold["turns"], hold["sure"])
                            for number, hold in sorted(model.holds.items())]
                    self.assertEqual([hall.tell(number) for number in hall.numbers()], told)
                    self.check_sums(hall, model)
                    key = (deed[0], answer[0], len(answer[7 if answer[0] == "hold" else 4]) > 0
                           if answer[0] in ("hold", "grow") else None)
                    seen[key] = seen.get(key, 0) + 1
        for key in (
            ("found", "found", None), ("found", "NoPromise", None), ("ask", "hold", True), ("ask", "hold", False),
            ("ask", "NoRoom", None), ("grow", "grow", True), ("grow", "grow", False), ("grow", "NoRoom", None),
            ("grow", "NoHold", None), ("back", "back", None), ("turn", "turn", None), ("move", "move", None),
            ("move", "NoRoom", None), ("move", "NoPromise", None), ("move", "NoMove", None),
        ):
            self.assertGreater(seen.get(key, 0), 5, key)


class Asks(unittest.TestCase):
    """Point 8, from what the hall told ahead of the ask alone."""

    def check_ask(self, deed, answer, before, promise, caps, lines):
        word, house, asked, rank, turns = deed
        promised = total(hold[2] for hold in before if hold[1] == house and hold[5])
        sure = all(promised.get(ware, 0) + asked[ware] <= promise.get(ware, 0) for ware in asked)
        may_end = {hold[0] for hold in before if not hold[5] and (sure or hold[3] < rank)}

        def is_beyond(numbers, at, ware):
            return asked[ware] + sum(hold[2].get(ware, 0) for hold in before
                                     if hold[0] in numbers and at in lines[hold[1]]) > caps[at].get(ware, 0)

        everybody = {hold[0] for hold in before}
        if answer[0] == "NoRoom":
            self.assertFalse(sure)
            self.assertFalse({number for number, part in answer[3]} & may_end)
            self.assertTrue(is_beyond({number for number, part in answer[3]}, answer[1], answer[2]))
            return
        self.assertEqual((answer[0], answer[6]), ("hold", sure))
        given = [claim[0] for claim in answer[7]]
        self.assertTrue(set(given) <= may_end)
        for number, owner, amounts, at, ware in answer[7]:
            self.assertIn((number, owner, amounts), [hold[:3] for hold in before])
            # Beside those that may not be ended and the earlier comers that stayed, it could not have stayed there.
            stayed = {other for other in everybody - set(given) if other < number or other not in may_end}
            self.assertTrue(is_beyond(stayed | {number}, at, ware))
        self.assertFalse(any(is_beyond(everybody - set(given), at, ware) for at in lines[house] for ware in asked))

    def test_rows_of_deeds(self):
        count = 0
        for seed in range(200, 300):
            first, hall, deeds = rows_of_deeds(seed)
            promises, caps = {first[0]: first[1]}, {first[0]: first[2]}
            before, lines = [], {first[0]: [first[0]]}
            for deed, answer in deeds:
                if answer[0] == "found":
                    promises[deed[1]], caps[deed[1]] = deed[3], deed[4]
                if deed[0] == "ask":
                    count += 1
                    with self.subTest(seed=seed, deed=deed):
                        self.check_ask(deed, answer, before, promises[deed[1]], caps, lines)
                before = [hall.tell(number) for number in hall.numbers()]
                lines = {name: hall.line(name) for name in hall.names()}
        self.assertGreater(count, 1000)


class Moved(unittest.TestCase):
    """Of point 9: a moved house moves just its own holds."""

    def test_rows_of_deeds(self):
        count = 0
        for seed in range(300, 400):
            first, hall, deeds = rows_of_deeds(seed)
            holds, uses, lines = [], {}, {}
            for deed, answer in deeds:
                if answer[0] == "move":
                    moved = uses[deed[1]]
                    count += moved != {}
                    with self.subTest(seed=seed, deed=deed):
                        self.assertEqual([hall.tell(number) for number in hall.numbers()], holds)
                        for name in uses:
                            more = (name in hall.line(deed[1])) - (name in lines[deed[1]])
                            for ware in WARES:
                                expected = uses[name].get(ware, 0) + more * moved.get(ware, 0)
                                self.assertEqual(hall.use(name).get(ware, 0), expected)
                holds = [hall.tell(number) for number in hall.numbers()]
                uses = {name: hall.use(name) for name in hall.names()}
                lines = {name: hall.line(name) for name in hall.names()}
        self.assertGreater(count, 50)


def translated(thing, names, times):
    """The thing with names exchanged and amounts multiplied, the words and all other numbers as they are."""
    if isinstance(thing, str):
        return names.get(thing, thing)
    if isinstance(thing, dict):
        return {names.get(key, key): value * times for key, value in thing.items()}
    if isinstance(thing, tuple) and thing and thing[0] == "NoRoom":
        holders = [(number, part * times) for number, part in thing[3]]
        return ("NoRoom", names[thing[1]], names[thing[2]], holders)
    if isinstance(thing, (tuple, list)):
        return thing.__class__(translated(part, names, times) for part in thing)
    return thing


class Alike(unittest.TestCase):
    """Of point 9: amounts multiplied and names exchanged."""

    def names_for(self, draws, old):
        letters = "abcdefghijklmnopqrstuvwxyz"
        drawn = set()
        while len(drawn) < len(old):
            drawn.add("".join(draws.choice(letters) for place in range(draws.randint(1, 8))))
        return dict(zip(sorted(old), sorted(drawn)))

    def test_rows_of_deeds(self):
        rows = 0
        for seed in range(400, 460):
            draws = random.Random(-seed)
            times = draws.choice((1, 2, 7, 10 ** 28))
            names = {**self.names_for(draws, NAMES), **self.names_for(draws, WARES)}
            first, hall, deeds = rows_of_deeds(seed)
            wares = [names[ware] for ware in draws.sample(WARES, 3)]
            other = Hall(wares, *translated(first, names, times))
            for deed, answer in deeds:
                with self.subTest(seed=seed, deed=deed):
                    self.assertEqual(do(other, translated(deed, names, times)), translated(answer, names, times))
                rows += 1
            with self.subTest(seed=seed):
                self.check_what_is_told(hall, other, names, times)
        self.assertEqual(rows, 60 * 60)

    def check_what_is_told(self, hall, other, names, times):
        self.assertEqual(other.names(), translated(hall.names(), names, 1))
        self.assertEqual(other.numbers(), hall.numbers())
        for number in hall.numbers():
            self.assertEqual(other.tell(number), translated(hall.tell(number), names, times))
        for name in hall.names():
            self.assertEqual(other.use(names[name]), translated(hall.use(name), names, times))
            for ware in WARES:
                for rank in (0, 4, 9):
                    self.assertEqual(other.most(names[name], names[ware], rank), times * hall.most(name, ware, rank))
        for ware in WARES:
            wants = {name: 1 + len(name) * 3 % 7 for name in hall.names()}
            told = [(names[name], multiplied(share, times), names.get(paper))
                    for name, share, paper in hall.shares(ware, wants)]
            self.assertEqual(other.shares(names[ware], translated(wants, names, times)), told)


def multiplied(share, times):
    product = Fraction(*share) * times
    return (product.numerator, product.denominator)


class Two(unittest.TestCase):
    """Of point 9: two halls beneath one first house, whose limit is never reached."""

    def renumbered(self, thing, numbers):
        """The answer of a hall by itself, with the numbers of holds as both together have counted them."""
        word = thing[0]
        if word == "hold":
            given = [(numbers[claim[0]],) + claim[1:] for claim in thing[7]]
            return (word, numbers[thing[1]]) + thing[2:7] + (given,)
        if word == "grow":
            given = [(numbers[claim[0]],) + claim[1:] for claim in thing[4]]
            return (word, numbers[thing[1]]) + thing[2:4] + (given, [numbers[number] for number in thing[5]])
        if word == "back":
            return (word, numbers[thing[1]], [numbers[number] for number in thing[2]])
        if word == "NoRoom":
            return thing[:3] + ([(numbers[number], part) for number, part in thing[3]],)
        return thing

    def both(self, seed):
        """The deeds of two halls apart, mingled: which hall, the deed and its answer; a turn is one of both."""
        draws = random.Random(seed)
        kinds = []
        for place, names in enumerate((NAMES[0::2], NAMES[1::2])):
            first = draw_first(draws, names)
            kinds.append((first, Hall(WARES, *first), names))
        rows = []
        last = [0, 0]
        for time in range(70):
            place = draws.randint(0, 1)
            hall, names = kinds[place][1:]
            deed = draw_deed(draws, names, hall.names(), last[place])
            # In the common hall a part's first house may be moved; by itself it may not.
            if deed[0] == "move" and deed[1] == names[0]:
                continue
            if deed[0] == "turn":
                rows.append((None, deed, [kind[1].turn() for kind in kinds]))
                continue
            answer = do(hall, deed)
            last[place] += answer[0] == "hold"
            rows.append((place, deed, answer))
        return [kind[0] for kind in kinds], [kind[1] for kind in kinds], rows

    def test_rows_of_deeds(self):
        words = set()
        for seed in range(500, 580):
            firsts, halls, rows = self.both(seed)
            common = Hall(WARES, "zzz", {}, {ware: 10 ** 30 for ware in WARES})
            for name, promise, cap in firsts:
                common.found(name, "zzz", promise, cap)
            numbers, last = ({}, {}), 0
            for place, deed, answer in rows:
                with self.subTest(seed=seed, deed=deed):
                    if place is None:
                        ended, lifted = [
                            sorted(numbers[half][number] for half in (0, 1) for number in answer[half][kind])
                            for kind in (1, 2)
                        ]
                        self.assertEqual(common.turn(), ("turn", ended, lifted))
                        continue
                    own = numbers[place]
                    if answer[0] == "hold":
                        last += 1
                        own[answer[1]] = last
                    if deed[0] in ("grow", "back"):
                        deed = (deed[0], own.get(deed[1], 999)) + deed[2:]
                    self.assertEqual(do(common, deed), self.renumbered(answer, own))
                    words.add((deed[0], answer[0]))
            with self.subTest(seed=seed):
                self.check_what_is_told(common, halls, numbers)
        self.assertTrue({("ask", "NoRoom"), ("ask", "hold"), ("grow", "grow"), ("grow", "NoRoom"), ("back", "back"),
                         ("move", "move"), ("move", "NoRoom"), ("found", "found"), ("grow", "NoHold")} <= words, words)

    def check_what_is_told(self, common, halls, numbers):
        for place, hall in enumerate(halls):
            for number in hall.numbers():
                told = hall.tell(number)
                self.assertEqual(common.tell(numbers[place][number]), (numbers[place][number],) + told[1:])
            for name in hall.names():
                self.assertEqual(common.line(name), hall.line(name) + ["zzz"])
                self.assertEqual((common.use(name), common.own(name), common.promised(name)),
                                 (hall.use(name), hall.own(name), hall.promised(name)))
                for ware in WARES:
                    self.assertEqual(common.most(name, ware, 5), hall.most(name, ware, 5))
        for ware in WARES:
            wants = [{name: 1 + len(name) * 3 % 7 for name in hall.names()} for hall in halls]
            apart = halls[0].shares(ware, wants[0]) + halls[1].shares(ware, wants[1])
            self.assertEqual(common.shares(ware, {**wants[0], **wants[1]}), sorted(apart, key=lambda row: row[0]))


if __name__ == "__main__":
    unittest.main()
