"""The points [6], [9] and [11] over the whole program: one office made in many ways is one office."""

import random
import unittest

from holeshift.amounts import Amount
from holeshift.blinds import blind, shows_blind
from holeshift.books import Book
from holeshift.compare import misses, shows_misses
from holeshift.desk import Desk
from holeshift.gaps import Gaps
from holeshift.hands import bands, guards, shows_band, shows_guard
from holeshift.holding import held_days, hold, shows_hold
from holeshift.lookers import Looker
from holeshift.menus import shows_slip, shows_watch, slips, watches
from holeshift.offices import Office
from holeshift.prices import price
from holeshift.reader import read_answer, read_office, read_row
from holeshift.rows import Row
from holeshift.texts import answer_text, office_text, row_text
from tests.definitions import full, offices, ring, sided, some_office
from tests.helper import Case
from tests.test_menus import free_looks


def drawn(seed, count):
    chance = random.Random(seed)
    return [some_office(chance) for _ in range(count)]


def in_other_order(chance, office):
    accounts, names = list(office.accounts), list(office.names)
    chance.shuffle(accounts)
    chance.shuffle(names)
    found = Office(office.days, *accounts)
    for name in names:
        found[name] = office[name]
    return found


def of_parts(chance, office):
    parts = [Office(office.days, *office.accounts) for _ in range(3)]
    for name in office.names:
        for part in chance.sample(parts, chance.randint(1, 3)):
            part[name] = office[name]
    found = parts[0] | parts[1]
    found |= parts[2]
    return found


def there_and_back(office):
    names = dict(zip(office.accounts, "vwxyz"))
    return office.renamed(names).renamed({new: old for old, new in names.items()})


def mended(chance, office):
    found = office.twin()
    for name in chance.sample(office.names, len(office.names) // 2):
        found.drop(name)
    if office.days < 5 and not found.kinds:
        found.days = 5
        found.days = office.days
    for name in reversed(office.names):
        found[name] = office[name]
    return found


def by_lines(office):
    desk = Desk()
    lines = office_text(office).split("\n")
    desk.run(lines[0], *["put " + line for line in reversed(lines[1:])])
    return desk.twin_office()


def ways(chance, office):
    """The office, made in many ways."""
    k = chance.randint(-3, 9)
    hands = office.hands
    found = [
        in_other_order(chance, office), of_parts(chance, office), there_and_back(office), (office << k) << -k,
        office << office.days, office.with_hands(*hands), office.without_hands("nobody"),
        office.with_looks(*office.looks),
        read_office(office_text(office)), mended(chance, office), office.twin(), office * 1, by_lines(office),
        office | office,
    ]
    row = Row(office)
    return found + [row.twin_office(), Book(office).twin_office()]


def papers(office, chance):
    """What the package tells of an office, with what shows it."""
    gaps = Gaps({account: chance.choice([0, 1, -1, Amount(1, 2)]) for account in office.accounts})
    day, days = chance.randrange(office.days), chance.randint(1, 5)
    menu = free_looks(office)[:min(2, 12 - len(office.looks))]
    found = [price(office), blind(office), hold(office, gaps, day, days), misses(office, office)]
    found += [held_days(office, gaps, day, 3), office.looks, office.hands, office.kinds, office.checks]
    if len(office.kinds) < 9:
        found += bands(office) + guards(office) + bands(office, bound=5) + guards(office, bound=5)
        found += watches(office, menu) + slips(office, menu)
    return found


class TestOneOffice(Case):
    def test_made_in_many_ways(self):
        for at, office in enumerate([ring(), sided(), full()] + drawn(121, 25)):
            chance = random.Random(at)
            text, answer = office_text(office), answer_text(price(office))
            told = papers(office, random.Random(at))
            for one in ways(chance, office):
                self.assertTrue(one == office and office == one)
                self.assertEqual([office_text(one), answer_text(price(one))], [text, answer])
                self.assert_same(papers(one, random.Random(at)), told)
                self.assertIs(Looker(one)(price(office)), True)

    def test_papers_of_one_are_right_for_all(self):
        for at, office in enumerate([ring(), sided()] + drawn(122, 12)):
            chance = random.Random(at)
            menu = free_looks(office)[:min(2, 12 - len(office.looks))]
            gaps, day, days = Gaps.lone(office.accounts[0]), office.days - 1, 4
            place, held, same_looks = blind(office), hold(office, gaps, day, days), misses(office, office)
            for one in ways(chance, office)[::3]:
                self.assertIs(shows_blind(one, place), True)
                self.assertIs(shows_hold(one, gaps, day, days, held), True)
                self.assertIs(shows_misses(one, office, same_looks), True)
                for band in bands(office):
                    self.assertIs(shows_band(one, band), True)
                for guard in guards(office, bound=5):
                    self.assertIs(shows_guard(one, guard, bound=5), True)
                for watch in watches(office, menu):
                    self.assertIs(shows_watch(one, menu, watch), True)
                for slip in slips(office, menu):
                    self.assertIs(shows_slip(one, menu, slip), True)


class TestAnswersLeadBooks(Case):
    def test_written_and_read_back(self):
        many = 0
        for office in offices() + drawn(123, 60):
            answer = price(office)
            found = read_answer(answer_text(answer), read_office(office_text(office)))
            self.assertTrue(found == answer)
            if not answer:
                continue
            many += 1
            for x in (1, Amount(7, 3)):
                book = Book(office, found.gaps * x)
                row = read_row(row_text(found.row.scaled(x)), office)
                for k in range(1, 5):
                    self.assert_same(book.play(row), found.rate * x)
                    self.assertTrue(book.paid == found.rate * x * k and book.hole == x and book.today == 0)
        self.assertGreater(many, 25)

    def test_told_to_a_desk(self):
        for office in [ring(), sided()] + drawn(124, 30):
            answer = price(office)
            lines = office_text(office).split("\n")
            desk = Desk()
            self.assertEqual(desk.run(lines[0], *["put " + line for line in lines[1:]]), ["ok"] * len(lines))
            self.assertEqual(desk.say("show"), " ; ".join(lines))
            self.assertEqual(desk.say("blind"), "yes" if blind(office) else "no")
            if not answer:
                self.assertEqual(desk.say("price"), answer_text(answer).split("\n")[0])
                continue
            self.assertEqual(desk.say("price"), answer_text(answer).split("\n")[0])
            desk.say(f"begin {answer.gaps}")
            for day in range(office.days):
                for on, kind, amount in answer.row.shifts():
                    if on == day:
                        self.assertEqual(desk.say(f"enter {kind} {amount}"), str(amount * office[kind].weight))
                self.assertEqual(desk.say("close"), " ".join(office.looks_on(day)) or "none")
            last = answer.row.last(answer.gaps)
            self.assertEqual(desk.say("book"), f"day {office.days} paid {answer.rate} gaps {last}")
            book = Book(office, answer.gaps)
            book.play(answer.row)
            self.assertTrue(desk.twin_book() == book)


if __name__ == "__main__":
    unittest.main()
