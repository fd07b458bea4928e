"""A desk: an office and a book of it, told by lines."""

from holeshift.blinds import blind
from holeshift.books import Book
from holeshift.errors import BadLine, BadText, NoBook, NoOffice
from holeshift.hands import bands, guards
from holeshift.holding import hold
from holeshift.offices import Office
from holeshift.prices import Blocked, price
from holeshift.reader import gaps_told, item_told, read_accounts, read_rest
from holeshift.texts import office_text
from holeshift.words import as_amount, as_day, as_name, need_end, read_word

WITHOUT_OFFICE = ("office", "undo")
WITH_BOOK = ("enter", "take", "close", "book", "blamed")


def _joined(words):
    """Words with single spaces between, `none` if there is none."""
    return " ".join(words) if words else "none"


def _told_alone(words):
    """Nothing is told behind the first word."""
    need_end(words, 1)
    return ()


def _told_office(words):
    """The days and the accounts of a line."""
    return read_word(words, 1, as_day), read_accounts(words, 2)


def _told_put(words):
    """The name and the item of a line."""
    return read_word(words, 1, as_name), read_rest(words, 2, item_told)


def _told_name(words):
    """The name of a line."""
    name = read_word(words, 1, as_name)
    need_end(words, 2)
    return (name,)


def _told_share(words):
    """The name and the Amount of a line."""
    name, amount = read_word(words, 1, as_name), read_word(words, 2, as_amount)
    need_end(words, 3)
    return name, amount


def _told_gaps(words):
    """The gaps of a line."""
    return (read_rest(words, 1, gaps_told),)


def _told_bound(words):
    """The bound of a line, None if it has none."""
    if len(words) == 1:
        return (None,)
    bound = read_word(words, 1, as_amount)
    need_end(words, 2)
    return (bound,)


def _told_hold(words):
    """The day, the number of days and the gaps of a line."""
    return read_word(words, 1, as_day), read_word(words, 2, as_day), read_rest(words, 3, gaps_told)


READINGS = {
    "office": _told_office, "put": _told_put, "drop": _told_name, "begin": _told_gaps, "enter": _told_share,
    "take": _told_share, "close": _told_alone, "undo": _told_alone, "show": _told_alone, "book": _told_alone,
    "blamed": _told_name, "price": _told_alone, "blind": _told_alone, "bands": _told_bound, "guards": _told_bound,
    "hold": _told_hold,
}


def _read(line):
    """The first word of a line, and what is told behind it; raises BadLine(word) for any other value."""
    words = line.split(" ") if isinstance(line, str) else [""]
    if words[0] not in READINGS:
        raise BadLine(0)
    reading = READINGS[words[0]]
    try:
        return words[0], reading(words)
    except BadText as error:
        raise BadLine(error.word) from None


def _keep(desk, office, book):
    """Give a desk another office and book; what it had can be taken back."""
    desk._past.append((desk._office, desk._book))
    desk._office = office
    desk._book = book


def _say_office(desk, days, accounts):
    _keep(desk, Office(days, *accounts), None)
    return "ok"


def _say_put(desk, name, item):
    office = desk._office.twin()
    office[name] = item
    _keep(desk, office, None)
    return "ok"


def _say_drop(desk, name):
    office = desk._office.twin()
    office.drop(name)
    _keep(desk, office, None)
    return "ok"


def _say_begin(desk, gaps):
    _keep(desk, desk._office, Book(desk._office, gaps))
    return "ok"


def _say_enter(desk, name, amount):
    book = desk._book.twin()
    answer = str(book.enter(name, amount))
    _keep(desk, desk._office, book)
    return answer


def _say_take(desk, account, amount):
    book = desk._book.twin()
    answer = str(book.take(account, amount))
    _keep(desk, desk._office, book)
    return answer


def _say_close(desk):
    seen = desk._book.sees()
    if seen:
        name, amount = seen[0]
        return f"seen {name} {amount}"
    book = desk._book.twin()
    names = book.close()
    _keep(desk, desk._office, book)
    return _joined(names)


def _say_undo(desk):
    if not desk._past:
        return "nothing"
    desk._office, desk._book = desk._past.pop()
    return "ok"


def _say_show(desk):
    return " ; ".join(office_text(desk._office).split("\n"))


def _say_book(desk):
    book = desk._book
    return f"day {book.day} paid {book.paid} gaps {book.gaps}"


def _say_blamed(desk, name):
    return _joined(desk._book.blamed(name))


def _say_price(desk):
    answer = price(desk._office)
    if answer:
        return f"lasting {answer.rate}"
    return "blocked" if isinstance(answer, Blocked) else "limited"


def _say_blind(desk):
    return "yes" if blind(desk._office) else "no"


def _sets(parties):
    """The sets of hands of some parties, in order."""
    return " ; ".join([" ".join(party.hands) if party.hands else "-" for party in parties]) if parties else "none"


def _say_bands(desk, bound):
    return _sets(bands(desk._office, bound=bound))


def _say_guards(desk, bound):
    return _sets(guards(desk._office, bound=bound))


def _say_hold(desk, day, days, gaps):
    found = hold(desk._office, gaps, day, days)
    return f"held {found.weight}" if found else "caught"


# Each takes the desk and what its line tells, does it, and returns the answer.
ACTIONS = {
    "office": _say_office, "put": _say_put, "drop": _say_drop, "begin": _say_begin, "enter": _say_enter,
    "take": _say_take, "close": _say_close, "undo": _say_undo, "show": _say_show, "book": _say_book,
    "blamed": _say_blamed, "price": _say_price, "blind": _say_blind, "bands": _say_bands, "guards": _say_guards,
    "hold": _say_hold,
}


class Desk:
    """An office and a book of it, perhaps neither, told by lines. Desks change."""

    def __init__(self):
        # Offices and books are never changed here, only replaced, so that those that were there can come back.
        self._office = None
        self._book = None
        self._past = []

    def say(self, line):
        """Do a line; returns its answer. A line that raises an error changes nothing."""
        word, told = _read(line)
        if self._office is None and word not in WITHOUT_OFFICE:
            raise NoOffice()
        if self._book is None and word in WITH_BOOK:
            raise NoBook()
        action = ACTIONS[word]
        return action(self, *told)

    def __call__(self, line):
        return self.say(line)

    def run(self, *lines):
        """The list of the answers of some lines; if one raises an error, the desk is as it was ahead of all."""
        office, book, past = self._office, self._book, list(self._past)
        done = None
        try:
            answers = [self.say(line) for line in lines]
            done = True
        finally:
            if done is None:
                self._office, self._book, self._past = office, book, past
        return answers

    def twin_office(self):
        """A twin of the office; None if there is none."""
        return None if self._office is None else self._office.twin()

    def twin_book(self):
        """A twin of the book; None if there is none."""
        return None if self._book is None else self._book.twin()

    def __len__(self):
        return len(self._past)
