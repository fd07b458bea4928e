"""The promises under holeshift/desk.py."""

import random
import re
import unittest

from holeshift.amounts import Amount
from holeshift.blinds import blind
from holeshift.books import Book
from holeshift.desk import Desk
from holeshift.errors import (
    BadAmount, BadBound, BadDay, BadLine, BadOffice, BadText, NoAccount, NoBook, NoCheck, NoItem, NoKind, NoOffice,
    ShiftError, TooMany,
)
from holeshift.gaps import Gaps
from holeshift.hands import bands, guards
from holeshift.holding import hold
from holeshift.items import Item
from holeshift.offices import Office
from holeshift.prices import Blocked, price
from holeshift.texts import office_text
from tests.definitions import full, ring, sided, some_offices
from tests.helper import Case, any_values
from tests.test_texts import AMOUNT, DAY, NAME, WORDS, Wrong, need

RING = [
    "office 2 a b", "put seea count a 0", "put seeb count b 1", "put up shift a:-1,b:1 - 1 bob",
    "put down shift a:1,b:-1 - 1 eve",
]
# The words of each line behind its first one: patterns of single words, or the readers of the rest.
FORMS = {
    "office": [DAY, NAME, "names"], "put": [NAME, Item.read], "drop": [NAME], "begin": [Gaps.read], "enter": [NAME,
    AMOUNT],
    "take": [NAME, AMOUNT], "close": [], "undo": [], "show": [], "book": [], "blamed": [NAME], "price": [], "blind": [],
    "bands": ["bound"], "guards": ["bound"], "hold": [DAY, DAY, Gaps.read],
}


def reads_amount(word):
    try:
        Amount.read(word)
    except BadText:
        return False
    return True


def told(line):
    """What a line tells behind its first word; raises Wrong with the first word that cannot stand."""
    need(isinstance(line, str), 0, 0)
    words = line.split(" ")
    need(words[0] in FORMS, 0, 0)
    at, found = 1, []
    for form in FORMS[words[0]]:
        if form == "names":
            for at in range(at, len(words)):
                need(re.fullmatch(NAME, words[at]) and words[at] > found[-1], 0, at)
                found.append(words[at])
            return found
        if form == "bound":
            if at == len(words):
                return [None]
            form = AMOUNT
        if not isinstance(form, str):
            try:
                return found + [form(" ".join(words[at:]))]
            except BadText as error:
                raise Wrong(0, at + error.word) from None
        need(at < len(words) and re.fullmatch(form, words[at]), 0, at)
        need(form != AMOUNT or reads_amount(words[at]), 0, at)
        found.append(int(words[at]) if form == DAY else Amount.read(words[at]) if form == AMOUNT else words[at])
        at += 1
    need(at == len(words), 0, at)
    return found


class Model:
    """A desk by the functions of the package: its office and book, and those that were there before."""

    def __init__(self):
        self.office = self.book = None
        self.past = []

    def set(self, office, book):
        self.past.append((self.office, self.book))
        self.office, self.book = office, book

    def say(self, line):
        word = line.split(" ")[0] if isinstance(line, str) else ""
        try:
            parts = told(line)
        except Wrong as wrong:
            raise BadLine(wrong.args[1]) from None
        if self.office is None and word not in ("office", "undo"):
            raise NoOffice()
        if self.book is None and word in ("enter", "take", "close", "book", "blamed"):
            raise NoBook()
        return getattr(self, "say_" + word)(*parts)

    def say_office(self, days, *accounts):
        self.set(Office(days, *accounts), None)
        return "ok"

    def say_put(self, name, item):
        office = self.office.twin()
        office[name] = item
        self.set(office, None)
        return "ok"

    def say_drop(self, name):
        office = self.office.twin()
        office.drop(name)
        self.set(office, None)
        return "ok"

    def say_begin(self, gaps):
        self.set(self.office, Book(self.office, gaps))
        return "ok"

    def say_enter(self, name, amount):
        book = self.book.twin()
        found = book.enter(name, amount)
        self.set(self.office, book)
        return str(found)

    def say_take(self, name, amount):
        book = self.book.twin()
        found = book.take(name, amount)
        self.set(self.office, book)
        return str(found)

    def say_close(self):
        for name, amount in self.book.sees():
            return f"seen {name} {amount}"
        book = self.book.twin()
        names = book.close()
        self.set(self.office, book)
        return " ".join(names) or "none"

    def say_undo(self):
        if not self.past:
            return "nothing"
        self.office, self.book = self.past.pop()
        return "ok"

    def say_show(self):
        return office_text(self.office).replace("\n", " ; ")

    def say_book(self):
        return f"day {self.book.day} paid {self.book.paid} gaps {self.book.gaps}"

    def say_blamed(self, name):
        return " ".join(self.book.blamed(name)) or "none"

    def say_price(self):
        answer = price(self.office)
        return f"lasting {answer.rate}" if answer else "blocked" if type(answer) is Blocked else "limited"

    def say_blind(self):
        return "yes" if blind(self.office) else "no"

    def say_bands(self, bound):
        return " ; ".join(" ".join(band.hands) or "-" for band in bands(self.office, bound=bound)) or "none"

    def say_guards(self, bound):
        return " ; ".join(" ".join(guard.hands) or "-" for guard in guards(self.office, bound=bound)) or "none"

    def say_hold(self, day, days, gaps):
        found = hold(self.office, gaps, day, days)
        return f"held {found.weight}" if found else "caught"


def outcome(work):
    try:
        return work()
    except ShiftError as error:
        return error


def state(desk):
    """All that can be asked of a desk without changing it."""
    office, book = desk.twin_office(), desk.twin_book()
    return (
        len(desk), None if office is None else office_text(office),
        None if book is None else (book.day, str(book.paid), str(book.gaps), len(book), list(book.deeds())),
    )


def undone(desk):
    """The states of a desk to its beginning, which is left as it is."""
    found = [state(desk)]
    copy = Desk()
    copy._office, copy._book, copy._past = desk._office, desk._book, list(desk._past)
    while copy.say("undo") == "ok":
        found.append(state(copy))
    return found


def begun(*lines):
    desk = Desk()
    desk.run(*lines)
    return desk


def some_line(chance):
    """A line of any sort, right or with a word otherwise."""
    name = chance.choice(["up", "down", "seea", "seeb", "a", "b", "no"])
    amount = chance.choice(["1", "0", "-1", "1/2", "2"])
    line = chance.choice(RING + [
        f"drop {name}", "begin none", "begin a 1", "begin b 1/2", f"enter {name} {amount}", f"take {name} {amount}",
        f"enter up {amount}", f"enter down {amount}", f"take a {amount}", "close", "close", "close", "undo", "undo",
        "show", "book", f"blamed {name}", "price", "blind", "bands", f"bands {amount}", "guards", f"guards {amount}",
        f"hold {chance.randint(0, 2)} {chance.randint(0, 9)} a 1 b -1/2", "put seea count a 0,1",
        "put mid total a,b 1", "put kc shift a:1,b:-1 1 3 amy", "put kd shift a:-2,b:2 0 9 zoe", "office 2 a",
        "office 6 a", "put more count c 0",
    ])
    if chance.random() < 0.25:
        words = line.split(" ")
        at = chance.randrange(len(words) + 1)
        words = chance.choice([
            words[:at] + [chance.choice(WORDS)] + words[at + 1:], words[:at] + [chance.choice(WORDS)] + words[at:],
            words[:at] + words[at + 1:], words[:at] + [""] + words[at:],
        ])
        line = " ".join(words)
    return line


class DeskCase(Case):
    def assert_says(self, desk, model, line):
        """A desk answers as the functions of the package tell, or raises as they do, and then is as before."""
        before = undone(desk)
        found, wanted = outcome(lambda: desk.say(line)), outcome(lambda: model.say(line))
        self.assert_same(found, wanted)
        if isinstance(found, ShiftError):
            self.assertEqual(undone(desk), before)
        else:
            self.assertIs(type(found), str)
        self.assert_like(desk, model)
        return found

    def assert_like(self, desk, model):
        self.assertEqual(len(desk), len(model.past))
        for found, wanted in ((desk.twin_office(), model.office), (desk.twin_book(), model.book)):
            self.assertTrue(found == wanted if wanted is not None else found is None)
        if model.book is not None:
            self.assertEqual(list(desk.twin_book().deeds()), list(model.book.deeds()))


class TestDesk(DeskCase):
    def test_defined_here(self):
        self.assert_defines(Desk, ["__init__", "say", "__call__", "run", "twin_office", "twin_book", "__len__"])
        self.assertEqual(Desk.__module__, "holeshift.desk")

    def test_at_first_there_is_neither(self):
        desk = Desk()
        self.assertEqual([desk.twin_office(), desk.twin_book(), len(desk), desk.run(), desk.say("undo")],
                         [None, None, 0, [], "nothing"])

    def test_each_line(self):
        desk = Desk()
        for line, answer, many in (
            ("office 2 a b", "ok", 1), ("put seea count a 0", "ok", 2), ("put seeb count b 1", "ok", 3),
            ("blind", "no", 3),
            ("price", "blocked", 3), ("bands", "none", 3), ("guards", "-", 3),
            ("put up shift a:-1,b:1 - 1 bob", "ok", 4),
            ("put down shift a:1,b:-1 - 1/2 eve", None, 4), ("put down shift a:1,b:-1 - 1 eve", "ok", 5),
            ("price", "lasting 2", 5), ("bands", "bob eve", 5), ("bands 2", "none", 5), ("bands 5/2", "bob eve", 5),
            ("guards", "bob ; eve", 5), ("guards 2", "-", 5), ("guards 0", "-", 5), ("hold 0 2 a 1", "held 2", 5),
            ("hold 1 1 b -3/2", "held 3/2", 5), ("hold 0 8 none", "held 0", 5),
            ("show", "office 2 a b ; down shift a:1,b:-1 - 1 eve ; seea count a 0 ; seeb count b 1 ; "
                     "up shift a:-1,b:1 - 1 bob", 5),
            ("begin a 1/2", "ok", 6), ("book", "day 0 paid 0 gaps a 1/2", 6), ("take a 1/2", "1", 7),
            ("close", "seen seea 1", 7),
            ("blamed seea", "none", 7), ("enter up 0", "0", 8), ("enter up 1", "1", 9), ("close", "seea", 10),
            ("blamed seeb", "bob", 10), ("enter down 3/4", "3/4", 11), ("blamed seeb", "bob eve", 11),
            ("close", "seen seeb 1/4", 11), ("enter down 1/4", "1/4", 12), ("close", "seeb", 13),
            ("blamed seeb", "none", 13),
            ("book", "day 2 paid 2 gaps a 1", 13), ("undo", "ok", 12), ("book", "day 1 paid 2 gaps a 1", 12),
            ("undo", "ok", 11), ("book", "day 1 paid 7/4 gaps a 3/4 b 1/4", 11), ("put seeb count b 1", "ok", 12),
            ("undo", "ok", 11), ("book", "day 1 paid 7/4 gaps a 3/4 b 1/4", 11), ("drop seeb", "ok", 12),
            ("blind", "yes", 12),
            ("price", "lasting 0", 12), ("bands", "-", 12), ("guards", "none", 12), ("drop up", "ok", 13),
            ("hold 0 1 a 1", "caught", 13), ("begin none", "ok", 14), ("close", "seea", 15), ("close", "none", 16),
            ("office 1 a", "ok", 17), ("show", "office 1 a", 17), ("undo", "ok", 16),
            ("book", "day 2 paid 0 gaps none", 16),
            ("put seeb count b 1", "ok", 17), ("price", "limited", 17),
        ):
            if answer is None:
                self.assert_raises(BadLine(5), desk.say, line)
            else:
                self.assert_same(desk(line=line) if many % 2 else desk.say(line=line), answer)
            self.assert_same(len(desk), many)

    def test_long_runs_by_chance(self):
        chance = random.Random(111)
        for _ in range(25):
            desk, model = Desk(), Model()
            for line in RING if chance.random() < 0.8 else ["office 2 a b"]:
                self.assert_says(desk, model, line)
            for _ in range(60):
                self.assert_says(desk, model, some_line(chance))
            while self.assert_says(desk, model, "undo") == "ok":
                pass
            self.assertEqual([len(desk), desk.twin_office(), desk.twin_book()], [0, None, None])
            self.assertEqual(self.assert_says(desk, model, "undo"), "nothing")
            self.assert_says(desk, model, "office 1 a")

    def test_questions_about_offices(self):
        chance = random.Random(112)
        for office in [ring(), sided(), full()] + some_offices(113, 25):
            lines = office_text(office).split("\n")
            desk, model = Desk(), Model()
            for line in [lines[0]] + ["put " + line for line in lines[1:]]:
                self.assert_says(desk, model, line)
            self.assertTrue(desk.twin_office() == office)
            gaps = Gaps({account: chance.choice([0, 1, Amount(-1, 2)]) for account in office.accounts})
            day, days = chance.randrange(office.days), chance.randint(1, 5)
            asked = ["show", "price", "blind", f"hold {day} {days} {gaps}", "hold 0 9 none",
            f"hold {office.days} 0 none"]
            if len(office.kinds) < 8:
                asked += ["bands", "guards", "bands 3", "guards 7/2", "guards -1/2"]
            for line in asked:
                self.assert_says(desk, model, line)

    def test_undo_takes_back_lines_that_changed_nothing(self):
        desk = begun(*RING, "begin none")
        for line in ("put seea count a 0", "office 2 a b", "begin none"):
            before = undone(desk)
            desk.run(line)
            self.assertEqual(len(desk), len(before))
            self.assertEqual(desk.say("undo"), "ok")
            self.assertEqual(undone(desk), before)
        self.assertEqual(desk.run("enter up 0", "undo", "undo", "undo", "show")[:-1], ["0", "ok", "ok", "ok"])
        self.assertEqual([desk.twin_book(), "down" in desk.twin_office()], [None, False])

    def test_undo_behind_what_is_seen(self):
        desk = begun(*RING, "begin a 1", "close", "close")
        self.assertEqual(len(desk), 6)
        self.assertEqual(desk.run("close", "undo", "undo"), ["seen seea 1", "ok", "ok"])
        self.assertEqual(len(desk), 4)

    def test_new_offices_have_no_book(self):
        for line in ("office 2 a b", "put seea count a 0", "drop up"):
            desk = begun(*RING, "begin a 1")
            self.assertEqual(desk.say(line), "ok")
            self.assertIsNone(desk.twin_book())
            self.assert_raises(NoBook(), desk.say, "book")
            self.assertEqual(desk.run("undo", "book"), ["ok", "day 0 paid 0 gaps a 1"])
        self.assertEqual(begun("office 3 a b").say("begin b 2"), "ok")


class TestWrongLines(DeskCase):
    def test_any_values(self):
        for desk in (Desk(), begun(*RING), begun(*RING, "begin none")):
            before = undone(desk)
            for value in any_values():
                self.assert_raises(BadLine(0), desk.say, value)
                self.assert_raises(BadLine(0), desk, value)
                self.assert_raises(BadLine(0), desk.run, value)
            self.assertEqual(undone(desk), before)

    def test_each_word(self):
        lines = [
            "office 2 a b", "put x count a 0", "put x match a b 0,1", "put k shift a:1,b:-1 - 1 any", "drop seea",
            "begin none",
            "begin a 1 b -1/2", "enter up 1", "take a 1/2", "close", "undo", "show", "book", "blamed seea", "price",
            "blind",
            "bands", "bands 1", "guards", "guards 0", "hold 0 2 a 1", "hold 1 8 none",
        ]
        for line in lines:
            words = line.split(" ")
            for at in range(len(words) + 1):
                changed = [words[:at], words[:at] + [""] + words[at:], words[:at] + words[at:at + 1] + words[at:]]
                changed += [words[:at] + [other] + words[at + 1:] for other in WORDS]
                changed += [words[:at] + [other] + words[at:] for other in WORDS[:12]]
                for other in changed:
                    desk, model = Desk(), Model()
                    for first in RING + ["begin none"]:
                        desk.say(first)
                        model.say(first)
                    line = " ".join(other)
                    found, wanted = outcome(lambda: desk.say(line)), outcome(lambda: model.say(line))
                    self.assert_same(found, wanted)
                    self.assert_like(desk, model)

    def test_first_word_that_cannot_stand(self):
        for line, word in (
            ("", 0), (" close", 0), ("closes", 0), ("Close", 0), ("close ", 1), ("close 1", 1), ("office", 1),
            ("office 2", 2),
            ("office x", 1), ("office 2 b a", 3), ("office 2 a a", 3), ("office 02 a", 1), ("office 2 a ", 3),
            ("put", 1),
            ("put x", 2), ("put X count a 0", 1), ("put x Count a 0", 2), ("put x count a", 4),
            ("put ca count a 0 1", 5),
            ("put x count a -", 4), ("put x shift a:1,b:-1 - 0 any", 5), ("drop", 1), ("drop x y", 2), ("begin", 1),
            ("begin a", 2),
            ("begin a 0", 2), ("begin b 1 a 1", 3), ("begin none ", 2), ("enter", 1), ("enter up", 2),
            ("enter up 01", 2),
            ("enter up 1 1", 3), ("enter UP 1", 1), ("take a 1.0", 2), ("undo 1", 1), ("show show", 1), ("book ", 1),
            ("blamed", 1),
            ("blamed x x", 2), ("price 1", 1), ("blind no", 1), ("bands x", 1), ("bands 1 1", 2), ("guards ", 1),
            ("guards +1", 1),
            ("hold", 1), ("hold 0", 2), ("hold 0 1", 3), ("hold 0 1 a", 4), ("hold -1 1 none", 1),
            ("hold 0 1 none none", 4),
            ("hold 0 1/2 none", 2), ("hold 0 1 b 1 a 1", 5), ("close\n", 0), ("price\nprice", 0), ("enter up 1\n", 2),
        ):
            for desk in (Desk(), begun(*RING, "begin none")):
                self.assert_raises(BadLine(word), desk.say, line)
                self.assert_same(outcome(lambda: Model().say(line)), BadLine(word))

    def test_no_office_then_no_book(self):
        for line in (
            "put x count a 0", "drop x", "begin a 1", "enter up 1", "take a 1", "close", "show", "book", "blamed x",
            "price",
            "blind", "bands", "guards -1", "hold 9 0 z 1",
        ):
            self.assert_raises(NoOffice(), Desk().say, line)
        self.assert_raises(BadLine(1), Desk().say, "close close")
        for line in ("enter no -1", "take z 0", "close", "book", "blamed no"):
            self.assert_raises(NoBook(), begun(*RING).say, line)

    def test_what_is_called_raises(self):
        desk = begun(*RING, "begin a 1")
        before = undone(desk)
        for line, wanted in (
            ("office 6 a", BadOffice("days")), ("office 2 a b c d e f", TooMany("accounts", 5)),
            ("office 0 a", BadOffice("days")),
            ("put x count c 0", NoAccount("c")), ("put x count a 2", BadDay(2)), ("drop no", NoItem("no")),
            ("begin a 1 z 1", NoAccount("z")), ("enter no 1", NoKind("no")), ("enter seea 1", NoKind("seea")),
            ("enter up -1/2", BadAmount(Amount(-1, 2))), ("take c 1", NoAccount("c")),
            ("take a 0", BadAmount(Amount(0))),
            ("take a -1", BadAmount(Amount(-1))), ("blamed up", NoCheck("up")), ("bands -1", BadBound(Amount(-1))),
            ("guards -1/3", BadBound(Amount(-1, 3))), ("hold 0 0 z 1", NoAccount("z")), ("hold 2 0 a 1", BadDay(2)),
            ("hold 0 0 a 1", BadDay(0)), ("hold 1 9 a 1", TooMany("days", 8)),
            ("hold " + "9" * 60 + " 1 none", BadDay(int("9" * 60))), ("enter no -1", NoKind("no")),
        ):
            self.assert_raises(wanted, desk.say, line)
            self.assertEqual(undone(desk), before)
        many = begun("office 1 a b", *[f"put k{x} shift a:1,b:-1 - 1 h{x}" for x in "abcde"])
        self.assert_raises(TooMany("hands", 4), many.say, "bands")
        self.assert_raises(BadBound(Amount(-1)), many.say, "guards -1")
        early = begun(*RING, "put up shift a:-1,b:1 1 1 bob", "begin none")
        self.assert_raises(BadDay(0), early.say, "enter up 1")


class TestRun(DeskCase):
    def test_run(self):
        desk = Desk()
        self.assertEqual(desk.run(*RING, "price"), ["ok"] * 5 + ["lasting 2"])
        found = desk.run()
        self.assertEqual([found, len(desk)], [[], 5])
        found.append(1)
        self.assertEqual(desk.run(), [])
        self.assertEqual(begun(*RING).run("undo", "undo", "undo", "undo", "undo", "undo"), ["ok"] * 5 + ["nothing"])

    def test_runs_that_raise_at_each_place(self):
        lines = ["begin a 1", "enter up 1", "close", "undo", "undo", "undo", "undo", "put seea count a 1",
        "office 1 a", "undo"]
        for start in ([], RING, RING + ["begin b 1", "enter down 1", "take a 1"]):
            for wrong, error in (("", BadLine(0)), ("hold 0 1", BadLine(3)), (7, BadLine(0))):
                for at in range(len(lines) + 1):
                    if not start and at == 0 or start:
                        desk = begun(*start)
                        before = undone(desk)
                        self.assert_raises(error, desk.run, *lines[:at], wrong, *lines[at:])
                        self.assertEqual(undone(desk), before)
        desk = begun(*RING, "begin a 1", "enter up 1", "close")
        before = undone(desk)
        self.assert_raises(NoItem("seea"), desk.run, "undo", "undo", "drop seea", "drop seea")
        self.assertEqual(undone(desk), before)
        self.assert_raises(NoOffice(), desk.run, *["undo"] * 8, "price")
        self.assertEqual(undone(desk), before)
        self.assertEqual(desk.say("book"), "day 1 paid 1 gaps b 1")

    def test_what_is_told_may_be_changed(self):
        desk = begun(*RING, "begin a 1")
        before = undone(desk)
        office, book = desk.twin_office(), desk.twin_book()
        office.drop("up")
        book.take("a", 5)
        book.undo()
        book.take("b", 5)
        self.assertEqual(undone(desk), before)
        self.assertTrue(desk.twin_office() == ring() and desk.twin_book() == Book(ring(), Gaps({"a": 1})))
        self.assertIsNot(desk.twin_office(), desk.twin_office())


if __name__ == "__main__":
    unittest.main()
