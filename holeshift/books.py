"""Books: an office while days go by."""

from holeshift.amounts import Amount
from holeshift.errors import (
    BadAmount, BadDay, BadGaps, BadOffice, BadRow, Looked, NoAccount, NoCheck, NoDeed, NoKind, Seen,
)
from holeshift.gaps import Gaps
from holeshift.offices import Office, need_accounts
from holeshift.rows import Row, is_amount_from_0


class Tried:
    """A block behind which a book is as it was when the block began."""

    def __init__(self, book):
        self.book = book

    def __enter__(self):
        book = self.book
        self.kept_day = book.day
        self.kept_paid = book.paid
        self.kept_gaps = book._gaps
        self.kept_calls = list(book._calls)
        return book

    def __exit__(self, kind, value, trace):
        book = self.book
        book.day = self.kept_day
        book.paid = self.kept_paid
        book._gaps = self.kept_gaps
        book._calls = self.kept_calls


class Book:
    """The gaps of an office from day to day, what was paid, and what was done. Books change."""

    def __init__(self, office, gaps=None):
        if not isinstance(office, Office):
            raise BadOffice("office")
        if gaps is None:
            gaps = Gaps()
        if not isinstance(gaps, Gaps):
            raise BadGaps(gaps)
        need_accounts(office, gaps.accounts)
        self.day = 0
        self.paid = Amount(0)
        self._office = office.twin()
        self._gaps = gaps
        # Each call has its name, what it did, and the day, what was paid and the gaps ahead of it.
        self._calls = []

    @property
    def gaps(self):
        """The gaps as they are now."""
        return self._gaps

    @gaps.setter
    def gaps(self, value):
        # Papers have an attribute of this name; those of a book change by what is done alone.
        raise AttributeError("the gaps of a book are not assigned")

    @property
    def hole(self):
        """The sum of all gaps."""
        return self._gaps.hole

    @property
    def today(self):
        """The day of the round."""
        return self.day % self._office.days

    def twin_office(self):
        """A twin of the office."""
        return self._office.twin()

    def twin(self):
        """An equal book, with the same calls to take back, that goes its own way."""
        made = Book(self._office, self._gaps)
        made.day = self.day
        made.paid = self.paid
        made._calls = list(self._calls)
        return made

    def __len__(self):
        return len(self._calls)

    def _called(self, word, deeds):
        """Keep a call that can be taken back, as things are ahead of it."""
        self._calls.append((word, deeds, self.day, self.paid, self._gaps))

    def enter(self, name, amount):
        """Make a shift of a kind today; returns what is paid for it."""
        if name not in self._office.kinds:
            raise NoKind(name)
        if not is_amount_from_0(amount):
            raise BadAmount(amount)
        if name not in self._office.kinds_on(self.day):
            raise BadDay(self.today)
        shift = self._office[name]
        cost = Amount.of(amount) * shift.weight
        self._called("enter", [("enter", name, Amount.of(amount))])
        self.paid = self.paid + cost
        self._gaps = self._gaps.behind(shift, amount)
        return cost

    def take(self, account, amount):
        """A theft: the gap of the account rises by the amount; returns the hole behind it."""
        if account not in self._office.accounts:
            raise NoAccount(account)
        if not is_amount_from_0(amount) or amount == 0:
            raise BadAmount(amount)
        self._called("take", [("take", account, Amount.of(amount))])
        self._gaps = self._gaps + Gaps.lone(account, amount)
        return self.hole

    def sees(self):
        """The list of the pairs (name, amount) of the checks that would now see another number than 0."""
        looks = [(name, self._office[name].sum_of(self._gaps)) for name in self._office.looks_on(self.day)]
        return [(name, amount) for name, amount in looks if amount != 0]

    def close(self):
        """All checks of today look, and the day is closed; returns their names. Raises Seen if one sees something."""
        seen = self.sees()
        if seen:
            name, amount = seen[0]
            raise Seen(self.today) from Looked(name, amount)
        names = self._office.looks_on(self.day)
        self._called("close", [("close",)])
        self.day = self.day + 1
        return names

    def play(self, row):
        """Enter the amounts of a row and close each of its days, as one call; returns what is paid."""
        if not isinstance(row, Row) or not row.twin_office() == self._office:
            raise BadRow("row")
        if self.today != 0:
            raise BadDay(self.today)
        seen = row.seen(self._gaps)
        if seen is not None:
            day, name, amount = seen
            raise Seen(day % self._office.days) from Looked(name, amount)
        deeds = []
        shifts = list(row.shifts())
        for day in range(row.days):
            deeds.extend([("enter", name, amount) for on, name, amount in shifts if on == day])
            deeds.append(("close",))
        cost = row.weight
        self._called("play", deeds)
        self.day = self.day + row.days
        self.paid = self.paid + cost
        self._gaps = row.last(self._gaps)
        return cost

    def blamed(self, name):
        """The hands whose shifts since the check last looked change what it sees; raises NoCheck(name)."""
        if name not in self._office.checks:
            raise NoCheck(name)
        check = self._office[name]
        day = 0
        hands = []
        for deed in self.deeds():
            if deed[0] == "close":
                if name in self._office.looks_on(day):
                    hands = []
                day = day + 1
            elif deed[0] == "enter" and deed[2] > 0:
                shift = self._office[deed[1]]
                if check.moved_by(shift) != 0:
                    hands.append(shift.hand)
        return tuple(sorted(set([str(hand) for hand in hands])))

    def deeds(self):
        """Yield all that was done and not taken back, in order."""
        found = [deed for call in self._calls for deed in call[1]]
        for deed in found:
            yield deed

    def undo(self):
        """Take back the last call; returns the name of its method. Raises NoDeed() if there is none."""
        if not self._calls:
            raise NoDeed()
        word, _, day, paid, gaps = self._calls.pop()
        self.day = day
        self.paid = paid
        self._gaps = gaps
        return word

    def tried(self):
        """A block, `with book.tried() as same`, behind which the book is as it was when the block began."""
        return Tried(self)

    def attempt(self, work):
        """What work(book) returns; if it raises any error, the book is as it was before."""
        day, paid, gaps, calls = self.day, self.paid, self._gaps, list(self._calls)
        done = None
        try:
            found = work(self)
            done = True
        finally:
            if done is None:
                self.day, self.paid, self._gaps, self._calls = day, paid, gaps, calls
        return found

    def __eq__(self, other):
        if not isinstance(other, Book) or not self._office == other._office:
            return False
        return self.day == other.day and self.paid == other.paid and self._gaps == other._gaps
