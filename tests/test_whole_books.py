"""Points 7, 8, 9 and 99: drawn rows of deeds, told to books and desks; who reads these alone reckons the same sums."""

import random
import unittest
from fractions import Fraction

from quotatree.audit import audit
from quotatree.book import Book
from quotatree.desk import Desk
from quotatree.errors import NoPromise, TreeError

WARES = ["ale", "bread", "coin"]
NAMES = ["ash", "birch", "cedar", "elm", "fir", "hazel", "larch"]


def total(many):
    told = {}
    for amounts in many:
        for ware, pieces in amounts.items():
            told[ware] = told.get(ware, 0) + pieces
    return told


def is_within(one, other):
    return all(one[ware] <= other.get(ware, 0) for ware in one)


def draw_first(draws):
    return (WARES, "ash", {"ale": draws.randint(1, 3)}, {ware: draws.randint(15, 30) for ware in WARES}, 1)


def draw_deed(draws, founded, last):
    """A deed about the founded houses, or one that founds another; some are refused in this way or that."""
    word = draws.choice(["found"] * 5 + ["ask"] * 9 + ["grow"] * 4 + ["back"] * 2 + ["move"] * 6 + ["turn"])
    number = draws.randint(max(1, last - 8), last + 1)
    amounts = {ware: draws.randint(1, 6) for ware in draws.sample(WARES, draws.randint(1, 3))}
    if word == "found":
        cap = {ware: draws.randint(6, 20) for ware in draws.sample(WARES, draws.choice((2, 3, 3, 3)))}
        promise = {ware: draws.randint(1, 4) for ware in draws.sample(WARES, draws.randint(0, 2))}
        return ("found", draws.choice(NAMES), draws.choice(founded), promise, cap, draws.randint(1, 9))
    if word == "grow":
        return ("grow", number, {ware: 1 + pieces // 3 for ware, pieces in amounts.items()})
    if word == "back":
        return ("back", number)
    if word == "move":
        return ("move", draws.choice(founded), draws.choice(founded))
    if word == "turn":
        return ("turn",)
    return ("ask", draws.choice(founded), amounts, draws.randint(0, 9), draws.choice((None, 1, 2, 5)))


def deeds_for(draws, keeper, count=50):
    """Drawn deeds; what is done or refused by the keeper, a Reader, decides about which houses and holds they are."""
    for time in range(count):
        yield draw_deed(draws, sorted(keeper.elders), keeper.last)


def row_of(book, deed):
    """The row, or the name of what is raised, with its fields."""
    try:
        return book.do(deed)
    except NoPromise as error:
        return ("NoPromise", error.house, error.ware)
    except TreeError as error:
        return (type(error).__name__,)


class Reader:
    """Reads rows alone, one after another, and keeps what they tell."""

    def __init__(self, first):
        word, wares, name, promise, cap, weight = first
        self.elders, self.promises, self.caps = {name: None}, {name: promise}, {name: cap}
        self.holds, self.last = {}, 0

    def line(self, name):
        return [] if name is None else [name] + self.line(self.elders[name])

    def beneath(self, at):
        return [name for name in self.elders if at in self.line(name)]

    def use(self, at):
        return total(hold["amounts"] for hold in self.holds.values() if at in self.line(hold["house"]))

    def own(self, house):
        return total(hold["amounts"] for hold in self.holds.values() if hold["house"] == house)

    def promised(self, house):
        return total(hold["amounts"] for hold in self.holds.values() if hold["house"] == house and hold["sure"])

    def read(self, row):
        getattr(self, "read_" + row[0])(*row[1:])

    def end(self, numbers):
        for number in numbers:
            self.holds.pop(number)

    def lift(self, numbers):
        for number in numbers:
            self.holds[number]["sure"] = True

    def read_found(self, name, elder, promise, cap, weight):
        self.elders[name], self.promises[name], self.caps[name] = elder, promise, cap

    def read_hold(self, number, house, amounts, rank, turns, sure, given):
        self.end(claim[0] for claim in given)
        self.holds[number] = {"house": house, "amounts": amounts, "rank": rank, "sure": sure}
        self.last = number

    def read_grow(self, number, amounts, sure, given, lifted):
        self.end(claim[0] for claim in given)
        hold = self.holds[number]
        hold["amounts"], hold["sure"] = total([hold["amounts"], amounts]), sure
        self.lift(lifted)

    def read_back(self, number, lifted):
        self.end([number])
        self.lift(lifted)

    def read_turn(self, ended, lifted):
        self.end(ended)
        self.lift(lifted)

    def read_move(self, house, elder):
        self.elders[house] = elder

    def read_refused(self, deed, house, ware, holders):
        pass


class Books(unittest.TestCase):
    def check_sums(self, book, reader):
        """Point 7, and that who reads the rows alone reckons the same."""
        for name in reader.elders:
            use, promised = reader.use(name), reader.promised(name)
            self.assertEqual((book.use(name), book.own(name), book.promised(name)), (use, reader.own(name), promised))
            self.assertTrue(is_within(use, reader.caps[name]))
            self.assertTrue(is_within(promised, reader.promises[name]))
            beneath = total(reader.promises[other] for other in reader.beneath(name))
            self.assertTrue(is_within(beneath, reader.caps[name]))
        self.assertEqual(book.numbers(), sorted(reader.holds))
        for number, hold in reader.holds.items():
            told = book.tell(number)
            self.assertEqual((told[1], told[2], told[3], told[5]),
                             (hold["house"], hold["amounts"], hold["rank"], hold["sure"]))

    def check_ask(self, reader, deed, row):
        """Point 8, by what was read ahead of the ask."""
        word, house, asked, rank, turns = deed
        sure = is_within(total([asked, reader.promised(house)]), reader.promises[house])
        may_end = {number for number, hold in reader.holds.items()
                   if not hold["sure"] and (sure or hold["rank"] < rank)}
        if row[0] == "refused":
            self.assertFalse(sure)
            at, ware, holders = row[2:]
            self.assertIn(at, reader.line(house))
            self.assertEqual(holders, [(number, hold["amounts"][ware]) for number, hold in sorted(reader.holds.items())
                                       if number not in may_end and ware in hold["amounts"]
                                       and at in reader.line(hold["house"])])
            self.assertGreater(asked[ware] + sum(part for number, part in holders), reader.caps[at].get(ware, 0))
            return
        self.assertEqual(row[:7], ("hold", reader.last + 1, house, asked, rank, turns, sure))
        given = [claim[0] for claim in row[7]]
        self.assertTrue(set(given) <= may_end)
        for number, owner, amounts, at, ware in row[7]:
            self.assertEqual((owner, amounts), (reader.holds[number]["house"], reader.holds[number]["amounts"]))
            stayed = [hold["amounts"].get(ware, 0) for other, hold in reader.holds.items()
                      if at in reader.line(hold["house"]) and other not in given
                      and (other < number or other not in may_end)]
            self.assertGreater(asked[ware] + sum(stayed) + amounts[ware], reader.caps[at].get(ware, 0))

    def test_rows_of_deeds(self):
        seen = {}
        for seed in range(60):
            draws = random.Random(seed)
            book = Book(*draw_first(draws))
            reader = Reader(book.rows()[0])
            count = 1
            for deed in deeds_for(draws, reader):
                row = row_of(book, deed)
                with self.subTest(seed=seed, deed=deed):
                    if deed[0] == "ask":
                        self.check_ask(reader, deed, row)
                    if row[0][0].islower():
                        reader.read(row)
                        count += 1
                    self.check_sums(book, reader)
                key = (deed[0], row[0])
                seen[key] = seen.get(key, 0) + 1
            with self.subTest(seed=seed):
                rows = book.rows()
                self.assertEqual(len(rows), count)
                self.assertEqual(audit(rows), (None, {name: reader.use(name) for name in reader.elders}))
        for key in (("found", "found"), ("found", "NoPromise"), ("found", "Taken"), ("ask", "hold"), ("ask", "refused"),
                    ("grow", "grow"), ("grow", "refused"), ("grow", "NoHold"), ("back", "back"), ("turn", "turn"),
                    ("move", "move"), ("move", "refused"), ("move", "NoPromise"), ("move", "NoMove")):
            self.assertGreater(seen.get(key, 0), 5, key)

    def test_two_books_that_are_told_the_same(self):
        for seed in range(100, 120):
            draws = random.Random(seed)
            first = draw_first(draws)
            one = Book(*first)
            other = Book(*[backwards(thing) for thing in first])
            reader = Reader(one.rows()[0])
            for deed in deeds_for(draws, reader):
                row = row_of(one, deed)
                self.assertEqual(row_of(other, tuple(backwards(thing) for thing in deed)), row)
                if row[0][0].islower():
                    reader.read(row)
            self.assertEqual(one.rows(), other.rows())

    def test_multiplied_amounts_and_exchanged_names(self):
        words = dict(zip(NAMES + WARES, ["aa", "b", "bb", "ccc", "d", "mmmmmmmm", "z", "hold", "move", "turn"]))
        for seed in range(200, 220):
            draws = random.Random(seed)
            first = draw_first(draws)
            times = draws.choice((1, 2, 9, 10 ** 28))
            book = Book(*first)
            other = Book(*exchanged(("first",) + first, words, times)[1:])
            reader = Reader(book.rows()[0])
            for deed in deeds_for(draws, reader):
                row = row_of(book, deed)
                self.assertEqual(row_of(other, exchanged(deed, words, times)), exchanged(row, words, times))
                if row[0][0].islower():
                    reader.read(row)
            self.assertEqual(other.rows(), [exchanged(row, words, times) for row in book.rows()])
            uses = {words[name]: exchanged((0, use), words, times)[1] for name, use in audit(book.rows())[1].items()}
            self.assertEqual(audit(other.rows()), (None, uses))

    def test_moves_done_and_done_back(self):
        count = 0
        for seed in range(300, 350):
            draws = random.Random(seed)
            book = Book(*draw_first(draws))
            reader = Reader(book.rows()[0])
            for deed in deeds_for(draws, reader):
                before = self.all_told(book, reader)
                row = row_of(book, deed)
                if row[0][0].islower():
                    reader.read(row)
                if row[0] != "move":
                    continue
                count += 1
                with self.subTest(seed=seed, deed=deed):
                    after = self.all_told(book, reader)
                    # Each hold is as it was; only uses, and what hangs on them, may be others.
                    self.assertEqual(after[:2], before[:2])
                    reader.elders[deed[1]] = old = before[2][deed[1]]
                    self.assertEqual(row_of(book, ("move", deed[1], old)), ("move", deed[1], old))
                    self.assertEqual(self.all_told(book, reader), before)
                    reader.elders[deed[1]] = deed[2]
                    self.assertEqual(row_of(book, deed), row)
                    self.assertEqual(self.all_told(book, reader), after)
            self.assertEqual(audit(book.rows()), (None, {name: reader.use(name) for name in reader.elders}))
        self.assertGreater(count, 50)

    def all_told(self, book, reader):
        names = sorted(reader.elders)
        return ([book.tell(number) for number in book.numbers()],
                [(book.own(name), book.promised(name)) for name in names], dict(reader.elders),
                [book.use(name) for name in names],
                [book.most(name, ware, rank) for name in names for ware in WARES for rank in (0, 5)],
                [book.shares(ware, {name: 5 for name in names}) for ware in WARES])


def backwards(thing):
    """The same dict or list in another order."""
    if isinstance(thing, dict):
        return {ware: thing[ware] for ware in reversed(list(thing))}
    return thing[::-1] if isinstance(thing, list) else thing


def exchanged(row, words, times):
    """The row or deed with names exchanged and amounts multiplied; its word and all other numbers stay."""
    def one(thing):
        if isinstance(thing, dict):
            return {words[ware]: pieces * times for ware, pieces in thing.items()}
        if isinstance(thing, list):
            return [one(part) for part in thing]
        if isinstance(thing, tuple) and thing and isinstance(thing[0], str):
            return exchanged(thing, words, times)
        if isinstance(thing, tuple):
            return tuple(one(part) for part in thing)
        return words[thing] if isinstance(thing, str) else thing

    told = tuple(one(thing) for thing in row[1:])
    if row[0] == "refused":
        told = told[:3] + ([(number, part * times) for number, part in row[4]],)
    return row[:1] + told


def shown(pieces, grain):
    """A number of pieces, whole or a Fraction, as a measure."""
    whole, rest = divmod(Fraction(pieces) / grain, 1)
    parts = [str(whole)] if whole or not rest else []
    return "+".join(parts + ([f"{rest.numerator}/{rest.denominator}"] if rest else []))


def shown_amounts(amounts, grains):
    return " ".join(f"{ware}:{shown(amounts[ware], grains[ware])}" for ware in sorted(amounts)) or "-"


def shown_numbers(numbers):
    return " ".join(str(number) for number in numbers) or "-"


def first_line(first, grains):
    wares, name, promise, cap, weight = first
    return (f"first {name} {weight} | " + " ".join(f"{ware}:{grains[ware]}" for ware in wares)
            + f" | {shown_amounts(promise, grains)} | {shown_amounts(cap, grains)}")


def line_of(deed, grains):
    """The line that tells a deed."""
    word = deed[0]
    if word == "found":
        name, elder, promise, cap, weight = deed[1:]
        return f"found {name} {elder} {weight} | {shown_amounts(promise, grains)} | {shown_amounts(cap, grains)}"
    if word == "ask":
        house, amounts, rank, turns = deed[1:]
        return f"ask {house} {rank} {'-' if turns is None else turns} | {shown_amounts(amounts, grains)}"
    if word == "grow":
        return f"grow {deed[1]} | {shown_amounts(deed[2], grains)}"
    return " ".join(str(thing) for thing in deed)


def answer_of(row, grains):
    """What a desk is to answer where a book writes the row."""
    word = row[0]
    if word in ("found", "move"):
        return "ok"
    if word == "refused":
        parts = [f"{number} {shown(part, grains[row[3]])}" for number, part in row[4]]
        return " | ".join([f"refused {row[2]} {row[3]}"] + parts)
    if word == "back":
        return f"lifted {shown_numbers(row[2])}"
    if word == "turn":
        return f"ended {shown_numbers(row[1])} | lifted {shown_numbers(row[2])}"
    sure, given = (row[6], row[7]) if word == "hold" else (row[3], row[4])
    parts = [f"{row[1]} {'promised' if sure else 'borrowed'}"]
    parts += [f"{number} {house} {at} {ware}" for number, house, amounts, at, ware in given]
    return " | ".join(parts + ([f"lifted {shown_numbers(row[5])}"] if word == "grow" else []))


def said(desk, line):
    """The answer, or the name of what is raised, with its fields."""
    try:
        return desk.say(line)
    except NoPromise as error:
        return ("NoPromise", error.house, error.ware)
    except TreeError as error:
        return (type(error).__name__,)


def ones_of(text):
    """The amounts of a text, as Fractions of ones."""
    pairs = [word.split(":") for word in text.split(" ")] if text != "-" else []
    return {ware: sum(Fraction(part) for part in measure.split("+")) for ware, measure in pairs}


class LineReader:
    """Reads lines and answers alone; all is kept in ones."""

    def __init__(self, line):
        self.elders, self.holds = {line.split(" ")[1]: None}, {}

    def read(self, line, answer):
        words, parts, answers = line.split(" | ")[0].split(" "), line.split(" | "), answer.split(" | ")
        if words[0] in ("found", "move") and answer == "ok":
            self.elders[words[1]] = words[2]
        if words[0] in ("ask", "grow") and not answer.startswith("refused"):
            for part in answers[1:]:
                if not part.startswith("lifted"):
                    self.holds.pop(part.split(" ")[0])
            number = answers[0].split(" ")[0]
            house, amounts = self.holds.get(number, (words[1], {}))
            self.holds[number] = (house, total([amounts, ones_of(parts[1])]))
        if words[0] == "back":
            self.holds.pop(words[1])
        if words[0] == "turn":
            for number in answers[0].split(" ")[1:]:
                self.holds.pop(number) if number != "-" else None

    def use(self, at):
        told = []
        for house, amounts in self.holds.values():
            while house is not None:
                if house == at:
                    told.append(amounts)
                house = self.elders[house]
        return total(told)


class Desks(unittest.TestCase):
    def begun(self, seed):
        draws = random.Random(seed)
        grains = {ware: draws.choice((1, 2, 4, 6, 12, 60, 125)) for ware in WARES}
        first = draw_first(draws)
        desk, line = Desk(), first_line(first, grains)
        self.assertEqual(desk.say(line), "ok")
        return draws, grains, first, desk, line

    def check_questions(self, desk, book, names, grains):
        for name in names:
            for word, amounts in (("use", book.use(name)), ("own", book.own(name)), ("promised", book.promised(name))):
                self.assertEqual(desk.say(f"{word} {name}"), shown_amounts(amounts, grains))
            for ware in WARES:
                for rank in (0, 6):
                    self.assertEqual(desk.say(f"most {name} {ware} {rank}"),
                                     shown(book.most(name, ware, rank), grains[ware]))
        self.assertEqual(desk.say("numbers"), shown_numbers(book.numbers()))
        for number in book.numbers():
            told, house, amounts, rank, turns, sure = book.tell(number)
            self.assertEqual(desk.say(f"tell {number}"),
                             f"{number} {house} {rank} {'-' if turns is None else turns} "
                             f"{'promised' if sure else 'borrowed'} | {shown_amounts(amounts, grains)}")
        for ware in WARES:
            wants = {name: 4 * len(name) % 7 for name in reversed(names)}
            words = " ".join(f"{name}:{shown(wants[name], grains[ware])}" for name in wants)
            told = [f"{name} {shown(Fraction(*share), grains[ware])} {'-' if paper is None else paper}"
                    for name, share, paper in book.shares(ware, wants)]
            self.assertEqual(desk.say(f"share {ware} | {words}"), " | ".join(told))
        self.assertEqual(desk.say("audit"), f"true {len(book.rows())}")

    def test_a_desk_answers_as_a_book_does(self):
        seen = set()
        for seed in range(400, 440):
            draws, grains, first, desk, line = self.begun(seed)
            book = Book(*first)
            reader, line_reader = Reader(book.rows()[0]), LineReader(line)
            for deed in deeds_for(draws, reader):
                row, line = row_of(book, deed), line_of(deed, grains)
                answer = said(desk, line)
                with self.subTest(seed=seed, line=line):
                    if row[0][0].islower():
                        self.assertEqual(answer, answer_of(row, grains))
                        reader.read(row)
                        line_reader.read(line, answer)
                    else:
                        self.assertEqual(answer, row)
                    for name in reader.elders:
                        # Point 99: lines and answers alone tell each house's use, and so do the rows.
                        use = ones_of(desk.say(f"use {name}"))
                        self.assertEqual(line_reader.use(name), use)
                        self.assertEqual({ware: use[ware] * grains[ware] for ware in use}, reader.use(name))
                seen.add((deed[0], row[0]))
            with self.subTest(seed=seed):
                self.check_questions(desk, book, sorted(reader.elders), grains)
        self.assertTrue({("ask", "hold"), ("ask", "refused"), ("grow", "grow"), ("grow", "refused"), ("grow", "NoHold"),
                         ("back", "back"), ("turn", "turn"), ("move", "move"), ("move", "refused"), ("found", "found"),
                         ("found", "Taken"), ("found", "NoPromise")} <= seen, seen)

    def test_multiplied_grains_answer_the_same(self):
        """The same measures by grains that are all multiplied by one number are amounts multiplied by it."""
        for seed in range(500, 515):
            draws, grains, first, desk, line = self.begun(seed)
            times = draws.choice((2, 3, 8))
            other = Desk()
            self.assertEqual(other.say(first_line(first, grains).replace(
                " ".join(f"{ware}:{grains[ware]}" for ware in WARES),
                " ".join(f"{ware}:{grains[ware] * times}" for ware in reversed(WARES)))), "ok")
            reader = Reader(("first",) + first)
            book = Book(*first)
            for deed in deeds_for(draws, reader):
                row = row_of(book, deed)
                if row[0][0].islower():
                    reader.read(row)
                line = line_of(deed, grains)
                with self.subTest(seed=seed, line=line):
                    self.assertEqual(said(other, line), said(desk, line))
            questions = ["numbers", "audit"] + [f"{word} {name}" for name in reader.elders for word in ("use", "own")]
            questions += [f"most {name} {ware} 3" for name in reader.elders for ware in WARES]
            questions += [f"share {ware} | " + " ".join(f"{name}:1" for name in reader.elders) for ware in WARES]
            for line in questions:
                self.assertEqual(other.say(line), desk.say(line))

    def test_moves_done_and_done_back(self):
        count = 0
        for seed in range(600, 615):
            draws, grains, first, desk, line = self.begun(seed)
            reader, line_reader = Reader(("first",) + first), LineReader(line)
            book = Book(*first)
            for deed in deeds_for(draws, reader):
                before = [desk.say(f"use {name}") for name in reader.elders]
                row = row_of(book, deed)
                answer = said(desk, line_of(deed, grains))
                if row[0] == "move":
                    count += 1
                    self.assertEqual(desk.say(f"move {deed[1]} {reader.elders[deed[1]]}"), "ok")
                    self.assertEqual([desk.say(f"use {name}") for name in reader.elders], before)
                    self.assertEqual(desk.say(f"move {deed[1]} {deed[2]}"), "ok")
                if row[0][0].islower():
                    reader.read(row)
                    line_reader.read(line_of(deed, grains), answer)
            self.assertEqual([ones_of(desk.say(f"use {name}")) for name in reader.elders],
                             [line_reader.use(name) for name in reader.elders])
            self.assertTrue(desk.say("audit").startswith("true "))
        self.assertGreater(count, 20)


if __name__ == "__main__":
    unittest.main()
