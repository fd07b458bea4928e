"""The promises of the points [3] to [6] and [9], and under holeshift/books.py."""

import random
import unittest

from holeshift.amounts import Amount
from holeshift.books import Book
from holeshift.errors import (
    BadAmount, BadDay, BadGaps, BadOffice, BadRow, Looked, NoAccount, NoCheck, NoDeed, NoKind, Seen, ShiftError,
)
from holeshift.gaps import Gaps
from holeshift.items import Count, Match, Shift, Total
from holeshift.offices import Office
from holeshift.prices import Limited, price
from holeshift.rows import Row
from tests.definitions import amount, fraction, make, one_way, prices, ring, seen_by, sided, some_offices, told
from tests.helper import Case, any_values, same

HALF = Amount(1, 2)
BIG = 10 ** 30 - 1
METHODS = [
    "__init__", "twin_office", "twin", "__len__", "enter", "take", "sees", "close", "play", "blamed", "deeds", "undo",
    "tried", "attempt", "__eq__",
]
NO_NUMBERS = [value for value in any_values() if not Amount.is_number(value)] + [-1, Amount(-1, 2), -BIG]


def gathered():
    """An office whose checks look on some days alone, several at once, with kinds of several hands."""
    return make(3, "abc", {
        "ab": Shift({"a": -1, "b": 1}, hand="bob"), "bc": Shift({"b": -1, "c": 1}, 0, 2, weight=2, hand="eve"),
        "ca": Shift({"c": -2, "a": 2}, 1, weight=5, hand="zoe"), "abc": Shift({"a": 1, "b": 1, "c": -2}, hand="amy"),
        "x": Count("a", 0), "y": Total(["a", "b"], 0, 2), "z": Match(["c"], ["a"], 2), "w": Count("c", 0),
    })


class Model:
    """A book by the definitions: what was done from the beginning, told anew for each question."""

    def __init__(self, office, gaps):
        self.office, self.first, self.calls = office, gaps, []

    def twin(self):
        model = Model(self.office, self.first)
        model.calls = list(self.calls)
        return model

    def deeds(self):
        return [deed for _, deeds in self.calls for deed in deeds]

    def state(self):
        """The day, what is paid, and the gaps as a dict of fractions."""
        day, paid, gaps = 0, 0, told(self.office, self.first)
        for deed in self.deeds():
            if deed[0] == "close":
                day += 1
            elif deed[0] == "take":
                gaps[deed[1]] += fraction(deed[2])
            else:
                shift = self.office[deed[1]]
                paid += shift.weight * fraction(deed[2])
                for account, change in shift.changes.items():
                    gaps[account] += change * fraction(deed[2])
        return day, paid, gaps

    def sees(self):
        day, _, gaps = self.state()
        looks = [name for name in self.office.checks if day % self.office.days in self.office[name].days]
        return [(name, amount(seen_by(self.office[name], gaps))) for name in looks if seen_by(self.office[name], gaps)]

    def blamed(self, name):
        day, hands, check = 0, set(), self.office[name]
        for deed in self.deeds():
            if deed[0] == "close":
                if day % self.office.days in check.days:
                    hands = set()
                day += 1
            elif deed[0] == "enter" and deed[2] > 0:
                shift = self.office[deed[1]]
                if seen_by(check, shift.changes) != 0:
                    hands.add(shift.hand)
        return tuple(sorted(hands))


class BookCase(Case):
    def assert_book(self, book, model):
        """The book tells just what the model does."""
        day, paid, gaps = model.state()
        office = model.office
        self.assert_same([book.day, book.today, book.paid], [day, day % office.days, amount(paid)])
        self.assert_same([book.gaps[account] for account in office.accounts], [amount(gap) for gap in gaps.values()])
        self.assertIs(type(book.gaps), Gaps)
        self.assert_same(book.hole, amount(sum(gaps.values())))
        self.assert_same([book.sees(), list(book.deeds()), len(book)], [model.sees(), model.deeds(), len(model.calls)])
        self.assert_same([book.blamed(name) for name in office.checks], [model.blamed(name) for name in office.checks])
        self.assertTrue(book.twin_office() == office)

    def assert_taken_back(self, book, model):
        """All calls of the book can be taken back to the beginning, one by one."""
        book, model = book.twin(), model.twin()
        while model.calls:
            word, _ = model.calls.pop()
            self.assert_same(book.undo(), word)
            self.assert_book(book, model)
        self.assert_raises(NoDeed(), book.undo)
        self.assert_book(book, model)

    def assert_unchanged(self, wanted, book, work, *args):
        before = shape(book)
        error = self.assert_raises(wanted, work, *args)
        self.assertTrue(same(shape(book), before))
        return error


def shape(book):
    """All that a book tells of itself, and what it tells when its calls are taken back."""
    book, found = book.twin(), []
    while True:
        office = book.twin_office()
        found.append((book.day, book.paid, book.gaps, list(book.deeds()), [office[name] for name in office.names]))
        if not len(book):
            return found
        found.append(book.undo())


def started():
    """A book of the ring some days later, with its model."""
    book, model = Book(ring(), Gaps({"b": HALF})), Model(ring(), Gaps({"b": HALF}))
    book.take("a", 1)
    book.enter("up", 1)
    book.close()
    book.enter("down", Amount(3, 2))
    half = Amount.of
    model.calls = [
        ("take", [("take", "a", half(1))]), ("enter", [("enter", "up", half(1))]), ("close", [("close",)]),
        ("enter", [("enter", "down", Amount(3, 2))]),
    ]
    return book, model


class TestMaking(BookCase):
    def test_defined_here(self):
        self.assert_defines(Book, METHODS)
        for name in ("gaps", "hole", "today"):
            self.assertIsInstance(vars(Book)[name], property)
        self.assertEqual(Book.__module__, "holeshift.books")
        self.assertLessEqual({"day", "paid"}, set(vars(Book(ring()))))

    def test_made(self):
        for office in (ring(), gathered(), Office(1, "a")):
            for gaps in (Gaps(), Gaps({"a": 1}), Gaps({"a": Amount(-BIG, 7)})):
                self.assert_book(Book(office, gaps), Model(office, gaps))
                self.assert_book(Book(gaps=gaps, office=office), Model(office, gaps))
            self.assert_book(Book(office), Model(office, Gaps()))
            self.assert_book(Book(office, None), Model(office, Gaps()))

    def test_no_office(self):
        for value in any_values():
            if not isinstance(value, Office):
                for gaps in (None, Gaps(), 7, Gaps({"zz": 1})):
                    self.assert_raises(BadOffice("office"), Book, value, gaps)

    def test_no_gaps(self):
        for value in any_values():
            if value is not None and not isinstance(value, Gaps):
                self.assertIs(self.assert_raises(BadGaps(value), Book, ring(), value).value, value)

    def test_no_account(self):
        self.assert_raises(NoAccount("aa"), Book, ring(), Gaps({"z": 1, "aa": -1, "a": 1}))
        self.assert_raises(NoAccount("c"), Book, ring(), Gaps({"c": HALF}))

    def test_the_office_is_changed_later(self):
        office = ring()
        book = Book(office)
        office.drop("up")
        office["seea"] = Count("b", 1)
        book.twin_office().drop("down")
        self.assert_book(book, Model(ring(), Gaps()))
        book.enter("up", 1)

    def test_the_gaps_are_not_assigned(self):
        book = Book(ring(), Gaps({"a": 1}))
        with self.assertRaises(AttributeError):
            book.gaps = Gaps()
        self.assertTrue(book.gaps == Gaps({"a": 1}))


class TestCalls(BookCase):
    def test_enter(self):
        office = gathered()
        book, model = Book(office, Gaps({"a": 5})), Model(office, Gaps({"a": 5}))
        for name, number in (
            ("ab", 1), ("bc", HALF), ("ab", 0), ("abc", Amount(BIG, 7)), ("bc", BIG), ("ab", Amount(0)),
        ):
            self.assert_same(book.enter(name=name, amount=number), Amount.of(number) * office[name].weight)
            model.calls.append(("enter", [("enter", name, Amount.of(number))]))
            self.assert_book(book, model)
        self.assert_taken_back(book, model)

    def test_enter_raises(self):
        book, _ = started()
        for value in any_values() + ["seea", "UP", "u"]:
            for number in (1, None):
                self.assertIs(self.assert_unchanged(NoKind(value), book, book.enter, value, number).name, value)
        for value in NO_NUMBERS:
            self.assertIs(self.assert_unchanged(BadAmount(value), book, book.enter, "up", value).value, value)
        book = Book(gathered())
        self.assert_unchanged(BadDay(0), book, book.enter, "ca", 1)
        self.assert_unchanged(BadAmount(-1), book, book.enter, "ca", -1)
        for _ in range(4):
            book.close()
        self.assert_unchanged(BadDay(1), book, book.enter, "bc", 0)
        self.assert_same(book.enter("ca", 2), Amount(10))

    def test_take(self):
        book, model = started()
        for account, number in (("a", 1), ("b", HALF), ("a", BIG), ("b", Amount(1, BIG))):
            hole = sum(model.state()[2].values()) + fraction(number)
            self.assert_same(book.take(account=account, amount=number), amount(hole))
            model.calls.append(("take", [("take", account, Amount.of(number))]))
            self.assert_book(book, model)
        self.assert_taken_back(book, model)

    def test_take_raises(self):
        book, _ = started()
        for value in any_values() + ["c", "up", "A"]:
            if value != "a":
                for number in (1, 0, None):
                    self.assertIs(self.assert_unchanged(NoAccount(value), book, book.take, value, number).name, value)
        for value in NO_NUMBERS + [0, Amount(0)]:
            self.assertIs(self.assert_unchanged(BadAmount(value), book, book.take, "a", value).value, value)

    def test_close(self):
        book, model = started()
        for _ in range(5):
            looks = ring().looks_on(book.day)
            if book.sees():
                break
            self.assert_same(book.close(), looks)
            model.calls.append(("close", [("close",)]))
            self.assert_book(book, model)
        self.assert_taken_back(book, model)
        empty = Book(Office(2, "a"), Gaps({"a": 1}))
        self.assert_same([empty.close(), empty.close(), empty.close(), empty.today], [(), (), (), 1])

    def test_close_sees_several(self):
        office = gathered()
        for gaps, wanted in (
            ({"a": 1, "c": HALF}, [("w", HALF), ("x", Amount(1)), ("y", Amount(1))]), ({"b": -2}, [("y", Amount(-2))]),
            ({"a": 1, "b": -1}, [("x", Amount(1))]), ({}, []),
        ):
            book = Book(office, Gaps(gaps))
            self.assert_same(book.sees(), wanted)
            if wanted:
                error = self.assert_unchanged(Seen(0), book, book.close)
                self.assertIs(type(error.__cause__), Looked)
                self.assert_same([error.__cause__.check, error.__cause__.amount], list(wanted[0]))
            else:
                self.assert_same(book.close(), ("w", "x", "y"))
        book.sees().append(1)
        self.assert_same(book.sees(), [])

    def test_checks_look_on_some_days_alone(self):
        book = Book(gathered(), Gaps())
        closed = [book.close() for _ in range(4)]
        self.assert_same(closed, [("w", "x", "y"), (), ("y", "z"), ("w", "x", "y")])
        book.take("a", 1)
        self.assert_same(book.sees(), [])
        self.assert_same(book.close(), ())
        self.assert_same(book.sees(), [("y", Amount(1)), ("z", Amount(-1))])
        error = self.assert_unchanged(Seen(2), book, book.close)
        self.assert_same([error.__cause__.check, error.__cause__.amount], ["y", Amount(1)])

    def test_no_deed(self):
        book = Book(ring())
        self.assert_unchanged(NoDeed(), book, book.undo)
        book.close()
        self.assert_same([book.undo(), len(book)], ["close", 0])
        self.assert_unchanged(NoDeed(), book, book.undo)

    def test_no_check(self):
        book, _ = started()
        for value in any_values() + ["up", "see"]:
            self.assertIs(self.assert_unchanged(NoCheck(value), book, book.blamed, value).name, value)
        self.assert_same(book.blamed(name="seeb"), ("bob", "eve"))

    def test_taken_back_and_done_once_more(self):
        book, model = started()
        before = shape(book)
        words = [book.undo() for _ in range(len(book))]
        self.assert_same(words, ["enter", "close", "enter", "take"])
        for deed in model.deeds():
            {"enter": book.enter, "take": book.take, "close": book.close}[deed[0]](*deed[1:])
        self.assertTrue(same(shape(book), before))


class TestBlamed(BookCase):
    def test_hands(self):
        book = Book(gathered())
        self.assert_same([book.blamed(name) for name in "xyzw"], [(), (), (), ()])
        book.enter("ab", 1)
        book.enter("abc", 0)
        # What is moved from a to b changes the count of a, not the total of both.
        self.assert_same([book.blamed(name) for name in "xyzw"], [("bob",), (), ("bob",), ()])
        book.take("a", 5)
        self.assert_same(book.blamed("x"), ("bob",))
        book.enter("bc", HALF)
        book.enter("abc", 1)
        wanted = [("amy", "bob"), ("amy", "eve"), ("amy", "bob", "eve"), ("amy", "eve")]
        self.assert_same([book.blamed(name) for name in "xyzw"], wanted)
        self.assertRaises(Seen, book.close)
        self.assert_same(book.blamed("x"), ("amy", "bob"))
        book.undo()
        self.assert_same(book.blamed("x"), ("bob",))

    def test_since_the_check_last_looked(self):
        book = Book(gathered())
        book.enter("ab", 1)
        book.enter("ab", 0)
        book.undo()
        self.assert_same(book.blamed("x"), ("bob",))
        book.undo()
        self.assert_same(book.blamed("x"), ())
        book.close()
        book.enter("ab", 1)
        book.enter("ca", HALF)
        book.close()
        self.assert_same([book.blamed(name) for name in "xyzw"], [("bob", "zoe"), ("zoe",), ("bob", "zoe"), ("zoe",)])
        book.enter("bc", HALF)
        self.assert_same(book.sees(), [("y", HALF), ("z", -HALF)])
        book.enter("bc", HALF)
        self.assert_same(book.sees(), [])
        self.assert_same(book.close(), ("y", "z"))
        self.assert_same([book.blamed(name) for name in "xyzw"], [("bob", "zoe"), (), (), ("eve", "zoe")])
        book.undo()
        self.assert_same(book.blamed("y"), ("eve", "zoe"))

    def test_a_shift_and_a_shift_back(self):
        book = Book(ring())
        book.enter("up", 2)
        book.enter("down", 2)
        self.assert_same([book.blamed("seea"), book.sees()], [("bob", "eve"), []])


class TestPlay(BookCase):
    def plan(self):
        return Row(ring(), 2, [(0, "up", 1), (1, "down", 1), (1, "up", 0)])

    def test_play(self):
        book, model = Book(ring(), Gaps({"a": 1})), Model(ring(), Gaps({"a": 1}))
        deeds = [("enter", "up", Amount(1)), ("close",), ("enter", "down", Amount(1)), ("close",)]
        for count in (1, 3):
            row = self.plan() * count
            self.assert_same(book.play(row=row), Amount(2 * count))
            model.calls.append(("play", deeds * count))
            self.assert_book(book, model)
            self.assertTrue(row == self.plan() * count)
        self.assert_taken_back(book, model)
        self.assert_same([book.undo(), book.undo(), len(book)], ["play", "play", 0])

    def test_several_kinds_and_empty_days(self):
        office = gathered()
        row = Row(office, 5, [(0, "ab", 1), (0, "bc", 1), (1, "abc", 2), (1, "ca", HALF), (4, "ab", 7)])
        book = Book(office, Gaps({"a": 1}))
        self.assert_unchanged(Seen(0), book, book.play, row)
        row = Row(office, 2, [(1, "ab", 1), (1, "ca", HALF), (1, "abc", 2)])
        book, model = Book(office), Model(office, Gaps())
        self.assert_same(book.play(row), Amount(11, 2))
        model.calls.append(("play", [
            ("close",), ("enter", "ab", Amount(1)), ("enter", "abc", Amount(2)), ("enter", "ca", HALF), ("close",),
        ]))
        self.assert_book(book, model)
        self.assert_unchanged(BadDay(2), book, book.play, row)
        self.assert_taken_back(book, model)

    def test_an_empty_row_closes_its_days(self):
        book, model = Book(ring()), Model(ring(), Gaps())
        self.assert_same(book.play(Row(ring(), 40)), Amount(0))
        model.calls.append(("play", [("close",)] * 40))
        self.assert_book(book, model)
        self.assert_taken_back(book, model)

    def test_wrong_rows(self):
        book, _ = started()
        rows = [Row(one_way()), Row(ring() << 1), Row(ring().renamed({"a": "x"})), self.plan().lines]
        for value in any_values() + rows:
            self.assert_unchanged(BadRow("row"), book, book.play, value)
        self.assert_unchanged(BadDay(1), book, book.play, self.plan())

    def test_seen(self):
        book = Book(ring(), Gaps({"a": 1}))
        book.play(self.plan())
        for row, day, check, number in (
            (Row(ring()), 0, "seea", Amount(1)), (Row(ring(), 2, [(0, "up", 1)]), 1, "seeb", Amount(1)),
            (Row(ring(), 1, [(0, "up", HALF)]), 0, "seea", HALF),
            (self.plan() + Row(ring(), 2, [(0, "up", 3), (1, "down", 3)]), 0, "seea", Amount(-2)),
        ):
            error = self.assert_unchanged(Seen(day), book, book.play, row)
            self.assertIs(type(error.__cause__), Looked)
            self.assert_same([error.__cause__.check, error.__cause__.amount], [check, number])

    def test_later_changes_of_the_row(self):
        book, row = Book(ring(), Gaps({"a": 1})), self.plan()
        book.play(row)
        deeds = list(book.deeds())
        row[0, "up"] = 7
        self.assert_same(list(book.deeds()), deeds)


class TestTwinsAndEquality(BookCase):
    def test_twins_go_their_own_ways(self):
        book, model = started()
        twin = book.twin()
        self.assertTrue(twin == book and twin is not book)
        before = shape(book)
        twin.close()
        twin.take("a", 1)
        self.assertTrue(same(shape(book), before))
        book.undo()
        book.undo()
        self.assert_same([len(twin), twin.day, book.day], [6, 2, 0])
        self.assert_same([twin.undo() for _ in range(6)], ["take", "close", "enter", "close", "enter", "take"])
        self.assert_same([len(book), book.undo(), book.undo()], [2, "enter", "take"])
        self.assert_taken_back(*started())

    def test_equals(self):
        def later(work, office=None, gaps=None):
            book = Book(office or ring(), gaps)
            work(book)
            return book

        books = [
            Book(ring()), Book(ring(), Gaps({"a": 1})), Book(one_way()), later(lambda book: book.close()),
            later(lambda book: (book.enter("up", 1), book.enter("down", 1))), Book(ring() << 1),
            later(lambda book: (book.close(), book.close())), later(lambda book: book.enter("up", 1)),
        ]
        for at, one in enumerate(books):
            for place, other in enumerate(books):
                self.assert_same([one == other, one != other], [at == place, at != place])
            for value in any_values() + [one.gaps, one.twin_office()]:
                self.assert_same([one == value, value == one], [False, False])
        # What can be taken back plays no part.
        self.assertTrue(later(lambda book: book.take("a", 1)) == Book(ring(), Gaps({"a": 1})))
        self.assertTrue(later(lambda book: book.enter("up", 0)) == Book(ring()))


class Stop(Exception):
    pass


class TestBlocks(BookCase):
    def do(self, book):
        book.enter("up", 1)
        book.take("b", 3)
        book.undo()
        book.undo()
        book.undo()
        book.take("a", HALF)

    def test_tried(self):
        book, _ = started()
        before = shape(book)
        with book.tried() as same_book:
            self.assertIs(same_book, book)
            self.do(same_book)
            self.assertFalse(same(shape(book), before))
        self.assertTrue(same(shape(book), before))
        with book.tried():
            while len(book):
                book.undo()
            book.take("b", 1)
        self.assertTrue(same(shape(book), before))

    def test_as_it_was_when_the_block_began(self):
        book, _ = started()
        block = book.tried()
        book.take("b", 1)
        before = shape(book)
        with block:
            self.do(book)
        self.assertTrue(same(shape(book), before))

    def test_left_by_errors(self):
        book, _ = started()
        before = shape(book)
        for error in (Stop("x"), Seen(3), KeyError("k"), ValueError(), KeyboardInterrupt()):
            with self.assertRaises(type(error)) as caught:
                with book.tried() as same_book:
                    self.do(same_book)
                    raise error
            self.assertIs(caught.exception, error)
            self.assertTrue(same(shape(book), before))
        with self.assertRaises(Seen) as caught:
            with book.tried():
                book.take("b", 1)
                book.close()
        self.assert_same([caught.exception.day, caught.exception.__cause__.check], [1, "seeb"])
        self.assertTrue(same(shape(book), before))

    def test_left_by_return(self):
        book, _ = started()
        before = shape(book)

        def work():
            with book.tried():
                self.do(book)
                return list(book.deeds())

        self.assertEqual(work()[-1], ("take", "a", HALF))
        self.assertTrue(same(shape(book), before))

    def test_nested(self):
        book, _ = started()
        before = shape(book)
        with book.tried():
            self.do(book)
            inside = shape(book)
            with book.tried(), book.tried():
                book.undo()
                book.undo()
            self.assertTrue(same(shape(book), inside))
            book.attempt(lambda same_book: same_book.take("b", 5))
            self.assertFalse(same(shape(book), inside))
        self.assertTrue(same(shape(book), before))

    def test_attempt(self):
        book, _ = started()
        other = book.twin()
        self.do(other)
        marker = object()
        self.assertIs(book.attempt(work=lambda same_book: self.do(same_book) or marker), marker)
        self.assertTrue(same(shape(book), shape(other)))
        self.assertIsNone(book.attempt(lambda same_book: self.assertIs(same_book, book)))

    def test_attempt_that_raises(self):
        book, _ = started()
        before = shape(book)
        for error in (Stop("x"), Seen(3), KeyError("k"), ValueError(), KeyboardInterrupt()):
            def work(same_book):
                self.do(same_book)
                same_book.attempt(self.do)
                raise error

            with self.assertRaises(type(error)) as caught:
                book.attempt(work)
            self.assertIs(caught.exception, error)
            self.assertTrue(same(shape(book), before))
        self.assert_unchanged(NoDeed(), book, book.attempt, lambda same_book: [same_book.undo() for _ in range(99)])

    def test_attempt_within_attempt(self):
        book, _ = started()

        def inner(same_book):
            same_book.undo()
            raise Stop()

        def outer(same_book):
            same_book.take("b", 1)
            kept = shape(same_book)
            self.assertRaises(Stop, same_book.attempt, inner)
            self.assertTrue(same(shape(same_book), kept))
            return len(same_book)

        self.assert_same(book.attempt(outer), 5)
        self.assert_same([len(book), book.undo()], [5, "take"])


class TestDeeds(BookCase):
    def test_asked_for_ahead_of_a_change(self):
        book, model = started()
        deeds = book.deeds()
        book.take("b", 7)
        wanted = model.deeds() + [("take", "b", Amount(7))]
        self.assert_same(next(deeds), wanted[0])
        book.undo()
        book.undo()
        self.assert_same(list(deeds), wanted[1:])
        self.assert_same(list(book.deeds()), model.deeds()[:-1])

    def test_none(self):
        self.assert_same(list(Book(ring()).deeds()), [])


class TestByChance(BookCase):
    def step(self, chance, book, model):
        """One call by chance, of the book and of the model; the book raises what the model tells."""
        office = model.office
        number = chance.choice([0, 1, 1, HALF, Amount(2, 3)])
        word = chance.choice(["enter", "enter", "take", "close", "close", "undo", "play"])
        day = model.state()[0] % office.days
        if word == "enter" and office.kinds:
            name = chance.choice(office.kinds)
            if office[name].days and day not in office[name].days:
                self.assert_raises(BadDay(day), book.enter, name, number)
            else:
                self.assert_same(book.enter(name, number), office[name].weight * Amount.of(number))
                model.calls.append(("enter", [("enter", name, Amount.of(number))]))
        elif word == "take" and number != 0:
            account = chance.choice(office.accounts)
            book.take(account, number)
            model.calls.append(("take", [("take", account, Amount.of(number))]))
        elif word == "close":
            seen = model.sees()
            if seen:
                error = self.assert_raises(Seen(day), book.close)
                self.assert_same([error.__cause__.check, error.__cause__.amount], list(seen[0]))
            else:
                book.close()
                model.calls.append(("close", [("close",)]))
        elif word == "undo" and model.calls:
            self.assert_same(book.undo(), model.calls.pop()[0])
        elif word == "play":
            self.play(chance, book, model)

    def play(self, chance, book, model):
        office = model.office
        row = Row(office, chance.randint(1, 4))
        for day in range(row.days):
            for kind in office.kinds_on(day):
                if chance.random() < 0.2:
                    row[day, kind] = chance.choice([1, HALF])
        if model.state()[0] % office.days:
            self.assert_raises(BadDay(model.state()[0] % office.days), book.play, row)
            return
        other = model.twin()
        deeds = []
        for day in range(row.days):
            deeds += [("enter", kind, row[day, kind]) for kind in office.kinds if row[day, kind] != 0]
            other.calls = model.calls + [("play", list(deeds))]
            if other.sees():
                error = self.assert_raises(Seen(day % office.days), book.play, row)
                self.assert_same([error.__cause__.check, error.__cause__.amount], list(other.sees()[0]))
                return
            deeds.append(("close",))
        self.assert_same(book.play(row), row.weight)
        model.calls.append(("play", deeds))

    def test_calls(self):
        chance = random.Random(8)
        for office in [ring(), gathered(), sided(), Office(2, "a", "b")] + some_offices(31, 12):
            gaps = Gaps({"a": chance.choice([0, 1, -1])})
            book, model = Book(office, gaps), Model(office, gaps)
            for _ in range(40):
                self.step(chance, book, model)
                self.assert_book(book, model)
            self.assert_taken_back(book, model)


class TestMainStatement(BookCase):
    def test_of_a_book(self):
        chance, closed = random.Random(9), 0
        for office in [ring(), sided(), one_way()] + some_offices(41, 30):
            answer = price(office)
            rate, weights, times = (answer.rate, answer.weights, 1) if answer else (Amount(1), answer.weights, 0)
            if isinstance(answer, Limited) and len(office.kinds) == 0:
                continue
            book = Book(office, Gaps({office.accounts[0]: chance.choice([0, 1])}))
            first, start, ends, thefts = book.gaps, book.paid, [], Amount(0)
            for _ in range(3 * office.days):
                if chance.random() < 0.5:
                    account, number = chance.choice(office.accounts), chance.choice([1, HALF])
                    book.take(account, number)
                    thefts = thefts + number * amount(prices(office, weights, book.today)[account])
                for _ in range(2):
                    if office.kinds_on(book.day):
                        book.enter(chance.choice(office.kinds_on(book.day)), chance.choice([1, 2, HALF]))
                self.hide(book)
                try:
                    book.close()
                except ShiftError:
                    break
                if book.today == 0:
                    ends.append(book.hole)
                    closed += book.hole != 0
                    worth = weights.worth(office, book.gaps) - weights.worth(office, first)
                    self.assertTrue(rate * Amount.total(ends) + worth - thefts <= (book.paid - start) * times)

        self.assertGreater(closed, 10)

    def hide(self, book):
        """Shift what the checks of today would see, as far as one kind alone can do it."""
        office = book.twin_office()
        for _ in range(6):
            for name, seen in book.sees():
                for kind in office.kinds_on(book.day):
                    moved = seen_by(office[name], office[kind].changes)
                    if moved and (seen > 0) != (moved > 0):
                        book.enter(kind, abs(seen).over(abs(moved)))
                        break


if __name__ == "__main__":
    unittest.main()
