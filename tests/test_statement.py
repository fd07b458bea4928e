"""The points [7] to [11] over all that is there: rows that `hold` finds, also with thefts amid, pay what [9] says."""

import random
import unittest

from holeshift.amounts import Amount
from holeshift.books import Book
from holeshift.gaps import Gaps
from holeshift.hands import bands
from holeshift.holding import hold
from holeshift.lookers import Looker
from holeshift.menus import watches
from holeshift.prices import Blocked, Lasting, Limited, price
from holeshift.rows import Row
from tests.definitions import (
    amount, fraction, full, least, offices, one_way, one_way_back, paid, passes, prices, ring, sided, some_offices,
    told,
)
from tests.helper import Case
from tests.test_hands import of_two
from tests.test_holding import till
from tests.test_menus import free_looks


class Led:
    """Rows that hold finds, one behind the other, from day 0 on, with a theft ahead of each but the first."""

    def __init__(self, chance, office, gaps, most_days, with_thefts):
        self.office, self.first, self.shifts, self.thefts, self.days = office, gaps, [], [], 0
        now = gaps
        while self.days < most_days:
            if with_thefts and self.days and chance.random() < 0.7:
                account, number = chance.choice(office.accounts), chance.choice([1, 2, Amount(1, 3)])
                theft = (self.days, account, number)
            else:
                theft = None
            start = now + Gaps.lone(theft[1], theft[2]) if theft else now
            found = hold(office, start, self.days % office.days, chance.randint(1, min(8, most_days - self.days)))
            if not found:
                break
            self.thefts += [theft] if theft else []
            self.shifts += [(self.days + day, kind, number) for day, kind, number in found.row.shifts()]
            self.days += found.row.days
            now = found.row.last(start)
        self.last = now

    def row(self):
        return Row(self.office, self.days, self.shifts)

    def book(self):
        """A book that is led through all of it; and the holes at the ends of its rounds."""
        book, holes = Book(self.office, self.first), []
        for day in range(self.days):
            for on, account, number in self.thefts:
                if on == day:
                    book.take(account, number)
            for on, kind, number in self.shifts:
                if on == day:
                    book.enter(kind, number)
            book.close()
            if book.today == 0:
                holes.append(book.hole)
        return book, holes


def samples():
    chance = random.Random(71)
    return [ring(), till(), sided(), one_way(), full()] + [of_two(chance) for _ in range(30)] + some_offices(72, 30)


def some_first(chance, office, answer):
    """Gaps to begin with: those of a plan, or any ones."""
    if answer and chance.random() < 0.7:
        return answer.gaps * chance.choice([1, 2, Amount(1, 2)])
    return Gaps({account: chance.choice([0, 0, 1, -1, Amount(3, 2)]) for account in office.accounts})


def limited_starts(chance):
    """Pairs of a limited office and gaps with a hole above 0 from which a row of one round passes."""
    found = [(one_way(), Gaps({"b": 2}))]
    for office in some_offices(78, 100) + [of_two(chance) for _ in range(300)]:
        if type(price(office)) is Limited:
            for _ in range(12):
                gaps = Gaps({account: chance.choice([0, 0, 1, -1]) for account in office.accounts})
                if gaps.hole > 0 and hold(office, gaps, 0, office.days):
                    found.append((office, gaps))
                    break
    return found


class TestStatement(Case):
    def test_rows_pay_what_the_weights_say(self):
        chance, many, stolen = random.Random(73), 0, 0
        for office in samples():
            answer = price(office)
            if not answer:
                continue
            for with_thefts in (False, True, True):
                led = Led(chance, office, some_first(chance, office, answer), chance.choice([4, 9, 20]), with_thefts)
                if not led.days:
                    continue
                row = led.row()
                self.assertTrue(passes(office, led.first, row, led.thefts))
                found = Looker(office).least(answer.weights, answer.rate, led.first, row, led.thefts)
                wanted = least(office, answer.weights, answer.rate, led.first, row, led.thefts)
                self.assert_same(found, amount(wanted))
                self.assertTrue(found <= row.weight)
                self.assertEqual(fraction(row.weight), paid(office, row))
                many += 1
                stolen += len(led.thefts)
        self.assertGreater(min(many, stolen), 30)

    def test_books_that_are_led_by_rows(self):
        chance, many = random.Random(74), {Lasting: 0, Limited: 0}
        starts = [(office, None) for office in samples()] + limited_starts(chance)
        for office, start in starts:
            answer = price(office)
            for with_thefts in (False, True):
                first = start or some_first(chance, office, answer)
                led = Led(chance, office, first, office.days * chance.randint(1, 20 // office.days), with_thefts)
                if not led.days or led.days % office.days:
                    continue
                book, holes = led.book()
                worth = answer.weights.worth(office, book.gaps) - answer.weights.worth(office, first)
                taken = sum(
                    fraction(number) * prices(office, answer.weights, day % office.days)[account]
                    for day, account, number in led.thefts
                )
                rate = fraction(answer.rate) if answer else 1
                total = rate * sum(fraction(hole) for hole in holes) + fraction(worth) - taken
                self.assertGreaterEqual(fraction(book.paid) if answer else 0, total)
                self.assertTrue(book.gaps == led.last and book.paid == led.row().weight)
                if not led.thefts:
                    self.assert_same(Book(office, first).play(led.row()), book.paid)
                many[Lasting if answer else Limited] += 1
        self.assertGreater(min(many.values()), 10)

    def test_worth_falls_in_limited_offices(self):
        chance, many = random.Random(75), 0
        for office, first in limited_starts(chance):
            answer = price(office)
            for k in range(1, 8 // office.days + 1):
                found = hold(office, first, 0, k * office.days)
                if not found:
                    break
                now = first
                for one in found.row.rounds():
                    behind = one.last(now)
                    fallen = answer.weights.worth(office, now) - answer.weights.worth(office, behind)
                    self.assertTrue(fallen >= now.hole)
                    now = behind
                    many += 1
                b = Amount.total([abs(office[name].sum_of(gaps)) for gaps in (first, now) for name in office.checks])
                self.assertLessEqual(k, answer.most_rounds(b.over(first.hole)))
        self.assertGreater(many, 5)

    def test_no_round_passes_in_blocked_offices(self):
        chance, many = random.Random(76), 0
        for office in samples() + offices() + [one_way_back()]:
            if type(price(office)) is not Blocked:
                continue
            many += 1
            for _ in range(6):
                gaps = Gaps({account: chance.randint(-3, 3) for account in office.accounts})
                gaps = gaps + Gaps.lone(office.accounts[0], 1 - gaps.hole)
                for one in (gaps, gaps * Amount(1, 7), gaps * 10 ** 29):
                    self.assertTrue(one.hole > 0)
                    self.assertFalse(hold(office, one, 0, office.days))
        self.assertGreater(many, 15)

    def test_plans_of_bands_and_slips_lead_books(self):
        for office in [ring(), till(), sided()] + some_offices(77, 25):
            answers = [(office.with_hands(*band.hands), band.answer) for band in bands(office)]
            for watch in watches(office, free_looks(office)[:2 if len(office.looks) < 11 else 0]):
                for at, less in enumerate(watch.less):
                    looks = watch.looks[:at] + watch.looks[at + 1:]
                    answers.append((office.with_looks(*looks), less))
            for one, answer in answers:
                book = Book(one, answer.gaps * 3)
                for k in range(1, 4):
                    book.play(answer.row.scaled(3))
                    self.assert_same(book.paid, answer.rate * 3 * k)
                    checks = [one[name] for name in one.checks]
                    self.assertTrue(all(check(book.gaps) == check(answer.gaps * 3) for check in checks))
                self.assertEqual(told(one, book.gaps).keys(), set(one.accounts))


if __name__ == "__main__":
    unittest.main()
