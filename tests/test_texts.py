"""The promises under the heading of holeshift/texts.py and holeshift/reader.py."""

import random
import re
import unittest

from holeshift.amounts import Amount
from holeshift.errors import (
    BadDay, BadOffice, BadRow, BadText, Clash, NoAccount, NoCheck, NoKind, ShiftError, TooMany,
)
from holeshift.gaps import Gaps
from holeshift.items import Count, Item, Match, Shift, Total
from holeshift.lookers import Looker
from holeshift.offices import Office
from holeshift.prices import Blocked, Lasting, Limited, price
from holeshift.reader import read_answer, read_office, read_row
from holeshift.rows import Row
from holeshift.texts import answer_text, office_text, row_text
from holeshift.weights import Weights
from tests.definitions import full, make, offices, one_way, one_way_back, ring, sided, some_offices
from tests.helper import Case, any_values, same

DAY = r"(0|[1-9][0-9]{0,59})"
NAME = r"[a-z]{1,8}"
AMOUNT = r"-?[0-9]+(/[0-9]+)?"
# Words that are put in the place of others.
WORDS = [
    "", "0", "1", "-1", "1/2", "2/4", "-1/3", "+1", "01", "1/1", "-0", "x", "A", "abcdefghi", "office", "row", "ends",
    "none", "-", "a", "zz", "9" * 60, "1" * 61, "0" * 2, "lasting", "limited", "blocked", "count", "a,b", "a:1,b:-1",
    "1" * 200, "1" * 201, "1/" + "3" * 200, "1/" + "3" * 201, "5/0", "a\tb", "1.0", "any", "shift",
]


class Wrong(Exception):
    """A word that cannot stand, for the reader of this test."""


def need(holds, line, word):
    if not holds:
        raise Wrong(line, word)


class Lines:
    """The words of a text, asked one after the other."""

    def __init__(self, text):
        need(isinstance(text, str), 0, 0)
        self.lines = [line.split(" ") for line in text.split("\n")]
        self.line = self.at = 0

    def begin(self):
        need(self.line < len(self.lines), self.line, 0)
        self.at = 0

    def more(self):
        return self.at < len(self.lines[self.line])

    def word(self, pattern, fits=lambda word: True):
        need(self.more(), self.line, self.at)
        word = self.lines[self.line][self.at]
        need(re.fullmatch(pattern, word) and fits(word), self.line, self.at)
        self.at += 1
        return word

    def amount(self, fits=lambda amount: True):
        def reads(word):
            try:
                return fits(Amount.read(word))
            except BadText:
                return False

        return Amount.read(self.word(AMOUNT, reads))

    def rest(self, read):
        text, at = " ".join(self.lines[self.line][self.at:]), self.at
        try:
            found = read(text)
        except BadText as error:
            raise Wrong(self.line, at + error.word) from None
        self.at = len(self.lines[self.line])
        return found

    def end(self):
        need(not self.more(), self.line, self.at)
        self.line += 1


def told_office(text):
    """The days, the accounts and the items that a text tells; raises Wrong with the first word that cannot stand."""
    lines, items = Lines(text), []
    lines.begin()
    lines.word("office")
    days = int(lines.word(DAY))
    accounts = [lines.word(NAME)]
    while lines.more():
        accounts.append(lines.word(NAME, lambda word: word > accounts[-1]))
    lines.end()
    while lines.line < len(lines.lines):
        lines.begin()
        name = lines.word(NAME, lambda word: not items or word > items[-1][0])
        items.append((name, lines.rest(Item.read)))
        lines.end()
    return days, accounts, items


def told_places(lines, stops, fits):
    """The tuples of a day, a name and an Amount of the lines to one that stops them."""
    found = []
    while lines.line < len(lines.lines) and not stops(lines.lines[lines.line][0]):
        lines.begin()
        last = found[-1] if found else (0, "")
        day = int(lines.word(DAY, lambda word: int(word) >= last[0]))
        name = lines.word(NAME, lambda word: day > last[0] or word > last[1])
        found.append((day, name, lines.amount(fits)))
        lines.end()
    return found


def told_row(lines, stops):
    lines.begin()
    lines.word("row")
    days = int(lines.word(DAY))
    lines.end()
    return days, told_places(lines, stops, lambda amount: amount > 0)


def told_row_text(text):
    return told_row(Lines(text), lambda word: False)


def told_answer(text):
    """What a text of an answer tells; raises Wrong with the first word that cannot stand."""
    lines, plan = Lines(text), None
    lines.begin()
    word = lines.word("lasting|limited|blocked")
    if word == "lasting":
        rate = lines.amount()
        lines.end()
        lines.begin()
        gaps = lines.rest(Gaps.read)
        lines.end()
        plan = (rate, gaps, *told_row(lines, lambda first: first == "ends"))
    else:
        lines.end()
    lines.begin()
    lines.word("ends")
    ends = []
    while lines.more():
        name = lines.word(NAME, lambda word: not ends or word > ends[-1][0])
        ends.append((name, lines.amount(lambda amount: amount != 0)))
    lines.end()
    return word, plan, ends, told_places(lines, lambda first: False, lambda amount: amount != 0)


def made_office(told):
    days, accounts, items = told
    office = Office(days, *accounts)
    for name, item in items:
        office[name] = item
    return office


def made_row(told, office):
    days, shifts = told
    row = Row(office, days)
    for day, name, amount in shifts:
        row[day, name] = amount
    return row


def made_answer(told, office):
    word, plan, ends, looks = told
    row = made_row(plan[2:], office) if plan else None
    for name in [name for name, _ in ends] + [name for _, name, _ in looks]:
        if name not in office.checks:
            raise NoCheck(name)
    for day, name, _ in looks:
        if (day, name) not in office.looks:
            raise BadDay(day)
    ends, by_look = dict(ends), {(day, name): amount for day, name, amount in looks}
    weights = Weights(
        tuple((name, ends.get(name, Amount(0))) for name in office.checks),
        tuple((look, by_look.get(look, Amount(0))) for look in office.looks),
    )
    return Lasting(*plan[:2], row, weights) if plan else {"limited": Limited, "blocked": Blocked}[word](weights)


def outcome(work):
    """What some work returns, or the error that it raises."""
    try:
        return work()
    except ShiftError as error:
        return error


def changed_words(text, chance, most):
    """Texts with one word or one line otherwise."""
    lines = [line.split(" ") for line in text.split("\n")]
    found = [text + "\n", "\n" + text, text + " ", " " + text, text.replace("\n", "\n\n"), text.replace(" ", "  "), ""]
    for at, words in enumerate(lines):
        def with_line(*new):
            found.append("\n".join(" ".join(line) for line in lines[:at] + list(new) + lines[at + 1:]))

        with_line()
        with_line(words, words)
        with_line(words, [""])
        with_line(words + [""])
        with_line(*[lines[at + 1], words] if at + 1 < len(lines) else [words, lines[0]])
        for place in range(len(words) + 1):
            new = chance.choice(WORDS)
            with_line(words[:place] + [new] + words[place:])
            with_line(words[:place], words[place:])
            if place < len(words):
                with_line(words[:place] + words[place + 1:])
                with_line(words[:place] + [words[place]] + words[place:])
                with_line(words[:place] + [words[place].upper()] + words[place + 1:])
                turned = words[place][1:] if words[place].startswith("-") else "-" + words[place]
                with_line(words[:place] + [turned] + words[place + 1:])
                with_line(words[:place] + words[place:place + 2][::-1] + words[place + 2:])
                for other in chance.sample(WORDS, 4):
                    with_line(words[:place] + [other] + words[place + 1:])
    return found if len(found) <= most else chance.sample(found, most)


class TextCase(Case):
    def assert_read(self, text, tell, make_of, read, write):
        """Reading tells the first word that cannot stand, or raises what the parts raise, or has the very text."""
        found = outcome(lambda: read(text))
        try:
            told = tell(text)
        except Wrong as wrong:
            self.assert_same(found, BadText(*wrong.args))
            return "text"
        wanted = outcome(lambda: make_of(told))
        self.assert_same(found, wanted)
        if isinstance(found, ShiftError):
            return "parts"
        self.assertEqual(write(found), text)
        return "read"

    def assert_reads(self, texts, *works):
        many = {"text": 0, "parts": 0, "read": 0}
        for text in texts:
            many[self.assert_read(text, *works)] += 1
        return many


def some_rows(chance, office):
    """Rows of an office with amounts by chance."""
    for days in (1, office.days, 40):
        row = Row(office, days)
        for day in range(days):
            for kind in office.kinds_on(day):
                if chance.random() < 0.4:
                    row[day, kind] = chance.choice([0, 1, Amount(1, 3), 10 ** 29, Amount(1, 10 ** 29)])
        yield row


class TestTexts(TextCase):
    def test_defined_here(self):
        for work in (office_text, row_text, answer_text):
            self.assertEqual(work.__module__, "holeshift.texts")
        for work in (read_office, read_row, read_answer):
            self.assertEqual(work.__module__, "holeshift.reader")

    def test_offices_there_and_back(self):
        for office in offices() + some_offices(91, 60):
            kept, text = office.twin(), office_text(office)
            lines = text.split("\n")
            self.assertEqual(lines[0], f"office {office.days} " + " ".join(office.accounts))
            self.assertEqual(lines[1:], [f"{name} {office[name]}" for name in sorted(office.names)])
            found = read_office(text)
            self.assertTrue(found == office == kept and found is not office)
            self.assertEqual(office_text(office=read_office(text=text)), text)

    def test_rows_there_and_back(self):
        chance = random.Random(92)
        for office in [ring(), sided(), full(), Office(1, "a")] + some_offices(93, 20):
            for row in some_rows(chance, office):
                lines, text = row.lines, row_text(row)
                self.assertEqual(text.split("\n"), [f"row {row.days}", *lines])
                self.assertTrue(read_row(text, office) == row and row.lines == lines)
                self.assertEqual(row_text(row=read_row(text=text, office=office)), text)

    def test_answers_there_and_back(self):
        kinds = set()
        for office in offices() + some_offices(94, 80):
            answer = price(office)
            text = answer_text(answer)
            found = read_answer(text, office)
            self.assertTrue(found == answer)
            self.assertIs(type(found), type(answer))
            self.assertEqual(answer_text(answer=read_answer(text=text, office=office)), text)
            self.assertIs(Looker(office)(found), True)
            kinds.add(type(answer))
        self.assertEqual(kinds, {Lasting, Limited, Blocked})

    def test_found(self):
        self.assertEqual(office_text(Office(5, "b", "a")), "office 5 a b")
        office = make(2, "ab", {"m": Match(["b"], ["a"], 1, 0), "k": Shift({"a": -2, "b": 2}, 1, weight=7, hand="eve")})
        self.assertEqual(office_text(office), "office 2 a b\nk shift a:-2,b:2 1 7 eve\nm match b a 0,1")
        self.assertEqual(row_text(Row(office, 7)), "row 7")
        row = Row(office, 4, [(3, "k", Amount(5, 2)), (1, "k", 10)])
        self.assertEqual(row_text(row), "row 4\n1 k 10\n3 k 5/2")
        weights = Weights((("seea", Amount(0)), ("seeb", Amount(1))), (
            ((0, "seea"), Amount(-2)), ((1, "seeb"), Amount(-1, 3)),
        ))
        zero = Weights((("seea", Amount(0)), ("seeb", Amount(0))), (((0, "seea"), Amount(0)), ((1, "seeb"), Amount(0))))
        plan = Row(ring(), 2, [(0, "up", 1), (1, "down", 1)])
        for answer, text in (
            (Lasting(Amount(2), Gaps({"a": 1}), plan, weights),
             "lasting 2\na 1\nrow 2\n0 up 1\n1 down 1\nends seeb 1\n0 seea -2\n1 seeb -1/3"),
            (Lasting(Amount(-1, 2), Gaps(), Row(ring(), 1), zero), "lasting -1/2\nnone\nrow 1\nends"),
            (Lasting(Amount(0), Gaps({"z": Amount(-1, 2)}), Row(ring(), 40), zero), "lasting 0\nz -1/2\nrow 40\nends"),
            (Limited(weights), "limited\nends seeb 1\n0 seea -2\n1 seeb -1/3"), (Blocked(zero), "blocked\nends"),
            (Blocked(weights), "blocked\nends seeb 1\n0 seea -2\n1 seeb -1/3"), (Limited(zero), "limited\nends"),
        ):
            self.assertEqual(answer_text(answer), text)
            self.assertTrue(read_answer(text, ring()) == answer)

    def test_made_of_the_text_alone(self):
        office = ring()
        row = read_row("row 2\n0 up 1", office)
        office.drop("up")
        self.assertTrue(row == Row(ring(), 2, [(0, "up", 1)]))
        row[0, "up"] = 5
        self.assertTrue(read_row("row 2\n0 up 1", ring()) != row)


class TestReading(TextCase):
    def test_changed_offices(self):
        chance, texts = random.Random(95), []
        for office in [Office(1, "a"), ring(), sided(), full()] + some_offices(96, 12):
            texts += changed_words(office_text(office), chance, 400)
        many = self.assert_reads(texts, told_office, made_office, read_office, office_text)
        self.assertGreater(min(many.values()), 100)

    def test_changed_rows(self):
        chance, many = random.Random(97), {"text": 0, "parts": 0, "read": 0}
        for office in [ring(), sided(), full()] + some_offices(98, 8):
            for row in some_rows(chance, office):
                found = self.assert_reads(
                    changed_words(row_text(row), chance, 150), told_row_text, lambda told: made_row(told, office),
                    lambda text: read_row(text, office), row_text,
                )
                many = {word: many[word] + found[word] for word in many}
        self.assertGreater(min(many.values()), 40)

    def test_changed_answers(self):
        chance, many = random.Random(99), {"text": 0, "parts": 0, "read": 0}
        for office in [ring(), sided(), full(), one_way(), one_way_back(), Office(1, "a")] + some_offices(100, 10):
            found = self.assert_reads(
                changed_words(answer_text(price(office)), chance, 300), told_answer,
                lambda told: made_answer(told, office), lambda text: read_answer(text, office), answer_text,
            )
            many = {word: many[word] + found[word] for word in many}
        self.assertGreater(min(many.values()), 30)

    def test_any_values(self):
        for value in any_values():
            for read in (read_office, lambda text: read_row(text, ring()), lambda text: read_answer(text, ring())):
                self.assert_raises(BadText(0, 0), read, value)
            for text, tell, make_of, read, write in (
                ("office 2 a b\nx count a 0\n{}", told_office, made_office, read_office, office_text),
                ("row 2\n{}", told_row_text, lambda told: made_row(told, ring()), lambda one: read_row(one, ring()),
                row_text),
            ):
                self.assert_read(text.format(str(value)), tell, make_of, read, write)

    def test_first_word_of_an_office(self):
        for text, line, word in (
            ("", 0, 0), ("offic 2 a", 0, 0), ("office", 0, 1), ("office ", 0, 1), ("office a", 0, 1),
            ("office 2", 0, 2),
            ("office 2 ", 0, 2), ("office -1 a", 0, 1), ("office 02 a", 0, 1), ("office 2 A", 0, 2),
            ("office 2 b a", 0, 3),
            ("office 2 a a", 0, 3), ("office 2 a b ", 0, 4), ("office 2  a", 0, 2), (" office 2 a", 0, 0),
            ("office 2 a\n", 1, 0),
            ("office 2 a\nx", 1, 1), ("office 2 a\nx ", 1, 1), ("office 2 a\nx count", 1, 2),
            ("office 2 a\nx count a", 1, 3),
            ("office 2 a\nx count a 0 0", 1, 4), ("office 2 a\nx count a 0\nx count a 0", 2, 0),
            ("office 2 a\nx count a 0\nw count a 0", 2, 0), ("office 2 a\nx count a 0\ny total a,a 0", 2, 2),
            ("office 2 a\n\nx count a 0", 1, 0), ("office 2 a\nX count a 0", 1, 0), ("office 2 a\nx  count a 0", 1, 1),
            ("office " + "1" * 61 + " a", 0, 1), ("office 2 a\nx count a 0\ny match a a 0", 2, 3),
            ("office 2 a\r\nx", 0, 2),
        ):
            self.assert_raises(BadText(line, word), read_office, text)

    def test_first_word_of_a_row(self):
        for text, line, word in (
            ("", 0, 0), ("row", 0, 1), ("row x", 0, 1), ("row 2 2", 0, 2), ("row 2\n", 1, 0), ("row 2\n0", 1, 1),
            ("row 2\n0 up", 1, 2), ("row 2\n0 up 0", 1, 2), ("row 2\n0 up -1", 1, 2), ("row 2\n0 up -1 x", 1, 2),
            ("row 2\n0 up 1 1", 1, 3), ("row 2\n0 UP 1", 1, 1), ("row 2\n00 up 1", 1, 0), ("row 2\n-1 up 1", 1, 0),
            ("row 2\n1 up 1\n0 up 1", 2, 0), ("row 2\n1 up 1\n0 Up 0", 2, 0), ("row 2\n0 up 1\n0 up 1", 2, 1),
            ("row 2\n0 up 1\n0 down 0", 2, 1), ("row 2\n0 down 1\n0 up 2/4", 2, 2), ("row 2\nends", 1, 0),
            ("rows 2", 0, 0),
            ("row 2\n0 up 1 ", 1, 3), ("row 2\n0 up 1\n" + "1" * 61 + " up 1", 2, 0),
        ):
            self.assert_raises(BadText(line, word), read_row, text, ring())

    def test_first_word_of_an_answer(self):
        lasting = "lasting 2\na 1\nrow 2\n0 up 1\n1 down 1\nends seeb 1\n0 seea -2\n1 seeb -2"
        self.assertEqual(answer_text(read_answer(lasting, ring())), lasting)
        for text, line, word in (
            ("", 0, 0), ("lasting", 0, 1), ("lasting x", 0, 1), ("lasting 2 2", 0, 2), ("lasting 2", 1, 0),
            ("limited 2", 0, 1),
            ("lasting 2\na", 1, 1), ("lasting 2\na 0", 1, 1), ("lasting 2\na 1 a 1", 1, 2), ("lasting 2\nnone", 2, 0),
            ("lasting 2\n", 1, 0), ("lasting 2\na 1\nends", 2, 0), ("lasting 2\na 1\nrow 2", 3, 0), ("limited", 1, 0),
            ("lasting 2\na 1\nrow 2\n0 up 1", 4, 0), ("lasting 2\na 1\nrow 2\n0 up 1\nend", 4, 0), ("blocked", 1, 0),
            ("limited\nend", 1, 0), ("limited\nends seea", 1, 2), ("limited\nends seea 0", 1, 2), ("limited ", 0, 1),
            ("limited\nends seea 1 seea 1", 1, 3), ("limited\nends seeb 1 seea 1", 1, 3), ("limited\nends ", 1, 1),
            ("limited\nends seea 1 ", 1, 3), ("limited\nends\n0", 2, 1), ("limited\nends\n0 seea 0", 2, 2),
            ("Limited", 0, 0),
            ("limited\nends\n0 seea 1\n0 seea 1", 3, 1), ("limited\nends\n1 seeb 1\n0 seea 1", 3, 0),
            ("limited\nends\n0 seea 1\nends", 3, 0), ("limited\nends\nends", 2, 0), ("limited\nends\n", 2, 0),
            ("limited\nends\n0 seea 1 1", 2, 3), ("limited\nends\n0 seea +1", 2, 2),
            ("lasting 2\na 1\nrow 2\n0 up -1\nends", 3, 2),
            ("lasting 2\na 1\nrow 2\n0 up 1\n0 up 1\nends", 4, 1), ("lasting 2/4\na 1\nrow 2\nends", 0, 1),
            ("lasting 2\nb 1 a 1\nrow 2\nends", 1, 2), ("lasting 2\na 1 \nrow 2\nends", 1, 2),
        ):
            self.assert_raises(BadText(line, word), read_answer, text, ring())
        for text in ("limited\nends\n0 seea -1", "blocked\nends seea -1/2", "lasting -3\nz 1\nrow 5\n0 up 1\nends"):
            self.assertEqual(answer_text(read_answer(text, ring())), text)


class TestParts(TextCase):
    def test_offices_refused_by_their_parts(self):
        for text, wanted in (
            ("office 6 a", BadOffice("days")), ("office 0 a", BadOffice("days")),
            ("office " + "9" * 60 + " a", BadOffice("days")),
            ("office 2 a b c d e f", TooMany("accounts", 5)), ("office 9 a b c d e f\nx count z 4", BadOffice("days")),
            ("office 2 a\nx count b 0", NoAccount("b")), ("office 2 a\nx count a 2", BadDay(2)),
            ("office 2 a\nw count b 4\nx count a 2", NoAccount("b")),
            ("office 2 a\nw count a 4\nx count b 2", BadDay(4)),
            ("office 5 a\n" + "\n".join(f"c{x} count a 0" for x in "abcdefghi"), TooMany("checks", 8)),
            ("office 5 a\n" + "\n".join(f"c{x} count a 0,1,2,3,4" for x in "abc"), TooMany("looks", 12)),
            ("office 5 a b\n" + "\n".join(f"k{x} shift a:1,b:-1 - 1 h" for x in "abcdefghij"), TooMany("shifts", 48)),
            ("office 1 a b\n" + "\n".join(f"k{x} shift a:1,b:-1 - 1 h" for x in "abcdefghijklm"), TooMany("kinds", 12)),
        ):
            self.assert_raises(wanted, read_office, text)

    def test_rows_refused_by_their_parts(self):
        for text, wanted in (
            ("row 0", BadRow("days")), ("row 41", BadRow("days")), ("row " + "9" * 60, BadRow("days")),
            ("row 41\n0 other 1", BadRow("days")), ("row 2\n2 up 1", BadDay(2)),
            ("row 2\n0 other 1\n2 up 1", NoKind("other")),
            ("row 2\n0 seea 1", NoKind("seea")), ("row 2\n" + "9" * 60 + " up 1", BadDay(int("9" * 60))),
        ):
            self.assert_raises(wanted, read_row, text, ring())
        self.assert_raises(BadDay(0), read_row, "row 6\n0 bc 1\n1 ca 1\n3 ca 1\n4 bc 1", sided() << 1)
        self.assert_raises(BadDay(1), read_row, "row 3\n0 bc 1\n1 bc 1\n2 zz 1", sided())

    def test_answers_refused_by_their_parts(self):
        lasting = "lasting 2\na 1\nrow {}\n{}\nends {}\n{}"
        for told, wanted in (
            ((41, "5 no 1", "no 1", "9 no 1"), BadRow("days")), ((2, "5 no 1", "no 1", "9 no 1"), BadDay(5)),
            ((2, "1 no 1", "nope 1", "9 non 1"), NoKind("no")), ((2, "1 up 1", "no 1", "9 non 1"), NoCheck("no")),
            ((2, "1 up 1", "seea 1", "9 non 1"), NoCheck("non")), ((2, "1 up 1", "seea 1 up 2", "0 seea 1"),
            NoCheck("up")),
            ((2, "1 up 1", "seea 1", "0 seea 1\n1 seea 1\n2 seea 1\n3 no 1"), NoCheck("no")),
            ((2, "1 up 1", "seea 1", "0 seea 1\n1 seea 1\n2 seea 1"), BadDay(1)),
            ((2, "1 up 1", "seea 1", "0 seea 1\n2 seea 1"), BadDay(2)),
        ):
            self.assert_raises(wanted, read_answer, lasting.format(*told), ring())
        for word in ("limited", "blocked"):
            self.assert_raises(NoCheck("up"), read_answer, f"{word}\nends up 1\n5 seea 1", ring())
            self.assert_raises(NoCheck("zz"), read_answer, f"{word}\nends\n5 seea 1\n7 zz 1", ring())
            self.assert_raises(BadDay(5), read_answer, f"{word}\nends\n5 seea 1\n7 seeb 1", ring())

    def test_what_is_right_is_not_looked_at(self):
        for text in (
            "lasting 7\nq 5\nrow 1\nends", "limited\nends\n0 seea 1", "blocked\nends seea 5",
            "lasting 0\nnone\nrow 40\nends",
        ):
            found = read_answer(text, ring())
            self.assertIs(Looker(ring())(found), False)
            self.assertEqual(answer_text(found), text)

    def test_bounds_of_figures(self):
        most, more = "7" * 200, "7" * 201
        for text in (f"lasting {most}\na 1\nrow 1\nends",
        f"lasting 1\na -1/{most}\nrow 1\n0 up {most}/2\nends seea -{most}"):
            self.assertEqual(answer_text(read_answer(text, ring())), text)
        for text, line, word in (
            (f"lasting {more}\na 1\nrow 1\nends", 0, 1), (f"lasting 1\na 1/{more}\nrow 1\nends", 1, 1),
            (f"limited\nends\n0 seea {more}", 2, 2), (f"limited\nends seea -1/{more}", 1, 2),
        ):
            self.assert_raises(BadText(line, word), read_answer, text, ring())
        self.assert_raises(BadText(1, 2), read_row, f"row 1\n0 up {more}", ring())
        self.assertEqual(row_text(read_row(f"row 1\n0 up {most}", ring())), f"row 1\n0 up {most}")

    def test_clash_is_not_raised(self):
        # Equal accounts and names cannot stand in a text, so that the office never clashes.
        self.assertTrue(issubclass(Clash, ShiftError))
        self.assert_raises(BadText(0, 3), read_office, "office 1 a a")
        self.assertTrue(same(read_office("office 1 a\nx count a 0")["x"], Count("a", 0)))
        self.assertTrue(same(read_office("office 1 a\nx total a 0")["x"], Total(["a"], 0)))


if __name__ == "__main__":
    unittest.main()
