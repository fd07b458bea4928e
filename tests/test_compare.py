"""The promises under holeshift/compare.py."""

import random
import unittest
from fractions import Fraction

from holeshift.amounts import Amount
from holeshift.compare import Comparison, Miss, Sums, Sure, misses, shows_misses
from holeshift.errors import Unlike
from holeshift.gaps import Gaps
from holeshift.items import Count, Match, Shift, Total
from holeshift.offices import Office
from holeshift.rows import Row
from tests.definitions import fraction, is_pairs, is_told_gaps, make, ring, seen_by, some_check, told
from tests.helper import Case, any_values, same
from tests.variants import near, some_near


def rank(vectors):
    """How many of some vectors are no sums of multiples of the others."""
    rows, found = [[Fraction(n) for n in vector] for vector in vectors], 0
    while rows:
        row = rows.pop()
        at = next((at for at, number in enumerate(row) if number), None)
        if at is not None:
            found += 1
            rows = [[n - other[at] / row[at] * m for n, m in zip(other, row)] for other in rows]
    return found


def vectors_on(office, day):
    return [[office[name][a] for a in office.accounts] for name in office.checks if day in office[name].days]


def is_sum(vectors, aim):
    return rank(vectors) == rank(vectors + [aim])


def sure_days(one):
    """The days on which each hole is seen."""
    return [day for day in range(one.days) if is_sum(vectors_on(one, day), [1 for _ in one.accounts])]


def missed_looks(one, other):
    """The looks of the other office that are missed, by days, then by names."""
    if sure_days(one):
        return []
    return [
        (day, name) for day in range(one.days) for name in other.checks
        if day in other[name].days and not is_sum(vectors_on(one, day), [other[name][a] for a in other.accounts])
    ]


def is_sum_of(office, day, multiples, aim):
    """Whether any value is multiples of the looks of a day, as told, that add up to the aim."""
    names = [name for name in office.checks if day in office[name].days]
    if not is_pairs(multiples, names):
        return False
    return all(
        sum(fraction(number) * office[name][account] for name, number in multiples) == wanted
        for account, wanted in zip(office.accounts, aim)
    )


def is_right(one, other, value):
    """Whether any value is a Miss, a Sure or a Sums as told, added up anew."""
    looks = [(day, name) for day in range(other.days) for name in other.checks if day in other[name].days]
    if type(value) is Miss:
        if not any(same((value.day, value.name), look) for look in looks):
            return False
        if type(value.rows) is not tuple or len(value.rows) != one.days:
            return False
        for day, gaps in enumerate(value.rows):
            if not is_told_gaps(one, gaps) or sum(told(one, gaps).values()) != 1:
                return False
            if any(day in one[name].days and seen_by(one[name], told(one, gaps)) != 0 for name in one.checks):
                return False
        return seen_by(other[value.name], told(one, value.rows[value.day])) != 0
    if type(value) is Sure:
        if type(value.day) is not int or not 0 <= value.day < one.days:
            return False
        return is_sum_of(one, value.day, value.multiples, [1 for _ in one.accounts])
    if type(value) is not Sums or type(value.table) is not tuple or len(value.table) != len(looks):
        return False
    return all(
        type(line) is tuple and len(line) == 3 and same(line[:2], look)
        and is_sum_of(one, look[0], line[2], [other[look[1]][account] for account in one.accounts])
        for line, look in zip(value.table, looks)
    )


def some_looks(chance, accounts, days):
    """An office with some checks, and perhaps a kind, which plays no part."""
    office = Office(days, *accounts)
    for letter in "uvwx"[:chance.randint(0, 4)]:
        office["c" + letter] = some_check(chance, accounts, days)
    if len(accounts) > 1 and chance.random() < 0.3:
        office["k"] = Shift({accounts[0]: 1, accounts[1]: -1})
    return office


def pairs(seed, count):
    chance = random.Random(seed)
    for _ in range(count):
        accounts, days = "abcd"[:chance.randint(1, 4)], chance.randint(1, 3)
        one, other = some_looks(chance, accounts, days), some_looks(chance, accounts, days)
        if chance.random() < 0.3:
            # The other one looks at what the one looks at, or at a part of it.
            other = one.twin()
            for name in other.checks:
                if chance.random() < 0.3:
                    other.drop(name)
        yield one, other


def counts():
    return make(1, "abc", {"x": Count("a", 0), "y": Count("b", 0)})


def total():
    return make(1, "abc", {"z": Total(["a", "b"], 0)})


class TestPapers(Case):
    def test_defined_here(self):
        for owner in (Comparison, Miss, Sure, Sums):
            self.assert_defines(owner, ["__bool__", "__eq__"])
            self.assertEqual(owner.__module__, "holeshift.compare")
        for owner in (Miss, Sure, Sums):
            self.assert_defines(owner, ["__init__"])
            self.assertEqual(owner.__bases__, (Comparison,))
        self.assertEqual([misses.__module__, shows_misses.__module__], ["holeshift.compare"] * 2)

    def test_keep_any_values(self):
        for value in any_values():
            for paper in (Miss(value, [value], None), Miss(rows=None, name=[value], day=value)):
                self.assertIs(paper.day, value)
                self.assertIs(paper.name[0], value)
                self.assertIsNone(paper.rows)
                self.assertIs(bool(paper), False)
            self.assertIs(Miss(1, 2, value).rows, value)
            for paper in (Sure(value, [value]), Sure(multiples=[value], day=value)):
                self.assertIs(paper.day, value)
                self.assertIs(paper.multiples[0], value)
                self.assertIs(bool(paper), True)
            self.assertIs(Sums(value).table, value)
            self.assertIs(Sums(table=value).table, value)
            self.assertIs(bool(Sums(value)), True)
        self.assertIs(bool(Comparison()), False)

    def test_equals(self):
        papers = [
            Comparison(), Miss(0, "x", ()), Miss(1, "x", ()), Miss(0, "y", ()), Miss(0, "x", (Gaps(),)), Sure(0, ()),
            Sure(1, ()), Sure(0, (("x", Amount(1)),)), Sums(()), Sums(((0, "x", ()),)), Sums(None), Sure(None, None),
            Miss(None, None, None),
        ]
        self.assert_alike_themselves_alone(papers)
        self.assertTrue(Miss(0, "x", (Gaps({"a": 0}),)) == Miss(0, "x", (Gaps(),)))


class TestMisses(Case):
    def assert_misses(self, one, other):
        """What misses tells is right, the first look or day of such, and the same again."""
        kept = one.twin(), other.twin()
        found = misses(one, other)
        missed, days = missed_looks(one, other), sure_days(one)
        if missed:
            self.assertIs(type(found), Miss)
            self.assertEqual((found.day, found.name), missed[0])
        elif days:
            self.assertIs(type(found), Sure)
            self.assert_same(found.day, days[0])
        else:
            self.assertIs(type(found), Sums)
        self.assertIs(bool(found), not missed)
        self.assertTrue(is_right(one, other, found))
        self.assertIs(shows_misses(one, other, found), True)
        self.assertTrue(misses(one=kept[0], other=kept[1]) == found)
        self.assertTrue(one == kept[0] and other == kept[1])
        return found

    def test_by_chance(self):
        many = {Miss: 0, Sure: 0, Sums: 0}
        for one, other in pairs(81, 400):
            many[type(self.assert_misses(one, other))] += 1
            many[type(self.assert_misses(other, one))] += 1
            self.assertIn(type(self.assert_misses(one, one)), (Sure, Sums))
        self.assertGreater(min(many.values()), 60)

    def test_found(self):
        covers = self.assert_misses(counts(), total())
        self.assert_same(covers.table, ((0, "z", (("x", Amount(1)), ("y", Amount(1)))),))
        miss = self.assert_misses(total(), counts())
        self.assertEqual([miss.day, miss.name, len(miss.rows)], [0, "x", 1])
        one, other = counts(), total()
        one["w"] = Count("c", 0)
        sure = self.assert_misses(one, other)
        self.assert_same([sure.day, sure.multiples], [0, tuple((name, Amount(1)) for name in "wxy")])
        self.assertEqual(self.assert_misses(other, one).name, "w")
        self.assert_same(self.assert_misses(one, Office(1, "a", "b", "c")).day, 0)
        self.assert_same(self.assert_misses(Office(3, "a", "b"), Office(3, "b", "a")).table, ())
        # Looks of one day are of no use on another one.
        early, late = make(2, "ab", {"x": Count("a", 0)}), make(2, "ab", {"x": Count("a", 1)})
        self.assertEqual([self.assert_misses(early, late).day, self.assert_misses(late, early).day], [1, 0])
        self.assertIs(bool(self.assert_misses(early, early)), True)

    def test_the_first_sure_day(self):
        one = make(3, "ab", {"x": Count("a", 0, 1, 2), "y": Count("b", 2, 1)})
        self.assert_same(self.assert_misses(one, make(3, "ab", {"q": Count("b", 0)})).day, 1)

    def test_gaps_that_only_together_are_seen(self):
        # The blind place of the one does not show the look of the other one; further gaps must come to it.
        for one, other in (
            (make(1, "abc", {"m": Match(["a"], ["b"], 0)}), make(1, "abc", {"q": Match(["a", "b"], ["c"], 0)})),
            (Office(1, "a", "b"), make(1, "ab", {"q": Match(["a"], ["b"], 0)})), (Office(1, "a", "b", "c", "d"), make(
                1, "abcd", {"q": Match(["b"], ["a"], 0)})), (Office(1, "a", "b"), make(1, "ab", {"q": Count("a", 0)})),
            (Office(1, "a", "b"), make(1, "ab", {"q": Count("b", 0)})),
            # Here the look sees -1 of the blind place, and 1 of gaps without a hole: 0 of both together.
            (make(1, "abcd", {"t": Total(["b", "d"], 0)}), make(1, "abcd", {"q": Match(["b"], ["c"], 0)})),
            (make(1, "abcd", {"t": Total(["c", "d"], 0)}), make(1, "abcd", {"q": Match(["c"], ["a"], 0)})),
        ):
            self.assertIs(type(self.assert_misses(one, other)), Miss)

    def test_it_sees_something_wherever_the_other_one_does(self):
        # The fact: in each round in which the other one sees something, if something is missing.
        chance, many = random.Random(82), 0
        for one, other in pairs(83, 150):
            if not misses(one, other):
                continue
            for _ in range(4):
                rows = [
                    Gaps({account: chance.choice([0, 0, 1, -1, 2]) for account in one.accounts})
                    for _ in range(one.days)
                ]
                hole = chance.choice([1, 2, -1])
                rows = [gaps + Gaps.lone(one.accounts[0], hole - gaps.hole) for gaps in rows]
                seen = [any(office[name](rows[day]) != 0 for day, name in office.looks) for office in (one, other)]
                self.assertTrue(seen[0] or not seen[1])
                many += seen[1]
        self.assertGreater(many, 20)


class TestShows(Case):
    def test_any_missed_look(self):
        one, other = total(), counts()
        for name, rows, wanted in (
            ("x", (Gaps({"a": 1, "b": -1, "c": 1}),), True), ("y", (Gaps({"a": 1, "b": -1, "c": 1}),), True),
            ("y", (Gaps({"a": -3, "b": 3, "c": 1}),), True), ("x", (Gaps({"c": 1}),), False),
            ("x", (Gaps({"a": 1}),), False), ("x", (Gaps({"a": 1, "b": -1}),), False), ("x", (), False),
            ("z", (Gaps({"a": 1, "b": -1, "c": 1}),), False), ("x", [Gaps({"a": 1, "b": -1, "c": 1})], False),
            ("x", (Gaps({"a": 1, "b": -1, "d": 1}),), False), ("x", (Gaps({"a": 1, "b": -1, "c": 1}),) * 2, False),
        ):
            miss = Miss(0, name, rows)
            self.assertIs(shows_misses(one, other, miss), wanted)
            self.assertIs(is_right(one, other, miss), wanted)
        right = (Gaps({"a": 1, "b": -1, "c": 1}),)
        for day in (False, Amount(0), 1, -1, "0", None):
            self.assertIs(shows_misses(one, other, Miss(day, "x", right)), False)

    def test_other_sure_days_and_sums_beside_them(self):
        one = make(3, "ab", {"x": Count("a", 0, 1, 2), "y": Count("b", 2, 1)})
        other = make(3, "ab", {"q": Total(["a", "b"], 1)})
        both = (("x", Amount(1)), ("y", Amount(1)))
        for value, wanted in (
            (Sure(1, both), True), (Sure(2, both), True), (Sure(0, both), False), (Sure(0, both[:1]), False),
            (Sure(3, both), False), (Sure(True, both), False), (Sure(Amount(1), both), False), (Sure(-1, both), False),
            (Sums(((1, "q", both),)), True), (Sums(((2, "q", both),)), False), (Sums([(1, "q", both)]), False),
            (Sums(((True, "q", both),)), False), (Sums(((1, "q", both[::-1]),)), False), (Sums(()), False),
            (Sums(([1, "q", both],)), False), (Sums(((1, "q", both, None),)), False), (Sums(((1, "q"),)), False),
        ):
            self.assertIs(shows_misses(one=one, other=other, value=value), wanted)
            self.assertIs(is_right(one, other, value), wanted)
        self.assertIs(shows_misses(one, Office(3, "a", "b"), Sums(())), True)

    def test_any_such_multiples(self):
        one = make(1, "ab", {"x": Count("a", 0), "y": Total(["a"], 0)})
        other = make(1, "ab", {"q": Count("a", 0)})
        half = Amount(1, 2)
        for x, y, wanted in ((1, 0, True), (0, 1, True), (half, half, True), (9, -8, True), (1, 1, False)):
            table = ((0, "q", (("x", Amount.of(x)), ("y", Amount.of(y)))),)
            self.assertIs(shows_misses(one, other, Sums(table)), wanted)

    def test_papers_near(self):
        chance, right = random.Random(84), 0
        for one, other in pairs(85, 60):
            for value in some_near(chance, misses(one, other), 60):
                wanted = is_right(one, other, value)
                self.assertIs(shows_misses(one, other, value), wanted)
                right += wanted
        for one, other in ((counts(), total()), (total(), counts()), (ring(), ring())):
            for value in near(misses(one, other)):
                self.assertIs(shows_misses(one, other, value), is_right(one, other, value))
        self.assertGreater(right, 20)

    def test_any_values(self):
        alone = Office(1, "a")
        for one, other in ((counts(), total()), (total(), counts()), (alone, alone), (ring(), ring())):
            found = misses(one, other)
            for value in any_values():
                self.assertIs(shows_misses(one, other, value), False)
                for paper in (
                    Sums(value), Sure(value, value), Sure(0, value), Miss(value, value, value), Miss(0, "x", value),
                    Miss(0, value, (Gaps({"c": 1}),)), Miss(0, "x", (value,)), Comparison(), Sums((value,)),
                    Sure(value, getattr(found, "multiples", ())), Sums(((0, "z", value),)),
                ):
                    self.assertIs(shows_misses(one, other, paper), is_right(one, other, paper))

    def test_rows_are_no_gaps(self):
        one, other = total(), counts()
        row = Row(one, 1)
        self.assertIs(shows_misses(one, other, Miss(0, "x", (row,))), False)


class TestUnlike(Case):
    def test_unlike(self):
        offices = [Office(1, "a"), Office(2, "a"), Office(1, "b"), Office(2, "a", "b"), Office(5, "a", "b")]
        for one in offices:
            for other in offices:
                works = [lambda: misses(one, other)]
                for value in (None, Sums(()), Miss(0, "x", ()), Comparison()):
                    works.append(lambda: shows_misses(one, other, value))
                for work in works:
                    if one.accounts != other.accounts:
                        self.assert_raises(Unlike("accounts"), work)
                    elif one.days != other.days:
                        self.assert_raises(Unlike("days"), work)
                    else:
                        work()


if __name__ == "__main__":
    unittest.main()
