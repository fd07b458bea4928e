"""Offices, rows and answers of their texts."""

from holeshift.amounts import Amount
from holeshift.errors import BadDay, BadText, NoCheck
from holeshift.gaps import Gaps
from holeshift.items import Item
from holeshift.offices import Office
from holeshift.prices import Blocked, Lasting, Limited
from holeshift.rows import Row
from holeshift.weights import Weights
from holeshift.words import as_amount, as_day, as_name, need_end, read_word


def item_told(text):
    """The Item with this text."""
    return Item.read(text)


def gaps_told(text):
    """The Gaps with this text."""
    return Gaps.read(text)


def read_rest(words, at, reading):
    """What a reading finds in the text of the words from this index on; raises BadText(0, word)."""
    try:
        return reading(" ".join(words[at:]))
    except BadText as error:
        raise BadText(0, at + error.word) from None


def read_name_above(words, at, last):
    """The name at this index, which is greater than the last one; raises BadText(0, at)."""
    name = read_word(words, at, as_name)
    if name <= last:
        raise BadText(0, at)
    return name


def read_accounts(words, at):
    """The ascending accounts, at least one, from this index on; raises BadText(0, word)."""
    found = [read_word(words, at, as_name)]
    for further in range(at + 1, len(words)):
        found.append(read_name_above(words, further, found[-1]))
    return found


def _read_first(words, known):
    """Raise BadText(0, 0) unless the first word is this one."""
    if words[0] != known:
        raise BadText(0, 0)


def _read_share(words, at, least):
    """The Amount at this index, which is not 0, and above 0 if the least sign is; raises BadText(0, at)."""
    amount = read_word(words, at, as_amount)
    if amount == 0 or least > 0 and amount < 0:
        raise BadText(0, at)
    return amount


def _read_office_line(words):
    """The days and the accounts of the first line of an office."""
    _read_first(words, "office")
    return read_word(words, 1, as_day), read_accounts(words, 2)


def _read_item_line(words, last):
    """The pair of a name greater than that of the last pair, and an item."""
    return read_name_above(words, 0, last[0]), read_rest(words, 1, item_told)


def _read_row_line(words):
    """The days of the first line of a row."""
    _read_first(words, "row")
    days = read_word(words, 1, as_day)
    need_end(words, 2)
    return days


def _read_place_line(words, last, least):
    """The tuple of a day, a name and an Amount, with a day and name greater than those of the last tuple."""
    day = read_word(words, 0, as_day)
    if day < last[0]:
        raise BadText(0, 0)
    name = read_name_above(words, 1, last[1] if day == last[0] else "")
    amount = _read_share(words, 2, least)
    need_end(words, 3)
    return day, name, amount


def _read_shift_line(words, last):
    """The tuple of a day, a kind and an Amount above 0."""
    return _read_place_line(words, last, 1)


def _read_look_line(words, last):
    """The tuple of a day, a check and an Amount other than 0."""
    return _read_place_line(words, last, -1)


def _read_answer_line(words):
    """The first word of an answer, and its rate, None for one without."""
    if words[0] == "lasting":
        rate = read_word(words, 1, as_amount)
        need_end(words, 2)
        return "lasting", rate
    if words[0] not in ("limited", "blocked"):
        raise BadText(0, 0)
    need_end(words, 1)
    return words[0], None


def _read_gaps_line(words):
    """The Gaps that a line tells."""
    return read_rest(words, 0, gaps_told)


def _read_ends_line(words):
    """The pairs of a check and an Amount other than 0, ascending, of the line of the ends."""
    _read_first(words, "ends")
    found = []
    last = ""
    for at in range(1, len(words), 2):
        last = read_name_above(words, at, last)
        found.append((last, _read_share(words, at + 1, -1)))
    return found


def _lines_of(text):
    """The lists of the words of each line; raises BadText(0, 0) for what is no string."""
    if not isinstance(text, str):
        raise BadText(0, 0)
    return [line.split(" ") for line in text.split("\n")]


def _read_line(lines, at, reading, *given):
    """What a reading finds in the words of the line at this index; raises BadText(line, word)."""
    if at >= len(lines):
        raise BadText(at, 0)
    words = lines[at]
    try:
        return reading(words, *given)
    except BadText as error:
        raise BadText(at, error.word) from None


def _read_lines(lines, start, stop, reading, last):
    """What a reading finds in each of these lines, given what it found in the line ahead, at first the last one."""
    found = [last]
    for at in range(start, stop):
        found.append(_read_line(lines, at, reading, found[-1]))
    return found[1:]


def read_office(text):
    """The Office with this text; raises BadText(line, word), then as the office and its items are made."""
    lines = _lines_of(text)
    days, accounts = _read_line(lines, 0, _read_office_line)
    told = _read_lines(lines, 1, len(lines), _read_item_line, ("", None))
    office = Office(days, *accounts)
    for name, item in told:
        office[name] = item
    return office


def _read_row_lines(lines, start, stop):
    """The days and the shifts that these lines of a row tell."""
    days = _read_line(lines, start, _read_row_line)
    return days, _read_lines(lines, start + 1, stop, _read_shift_line, (0, "", None))


def read_row(text, office):
    """The Row of an Office with this text; raises BadText(line, word), then as the row is made."""
    lines = _lines_of(text)
    days, shifts = _read_row_lines(lines, 0, len(lines))
    return Row(office, days, shifts)


def _place_of_ends(lines, start):
    """The index of the first line of the ends from this one on, or behind the last line."""
    for at in range(start, len(lines)):
        if lines[at][0] == "ends":
            return at
    return len(lines)


def _need_looks(office, ends, looks):
    """Raise NoCheck for the first name that is no check, then BadDay for the first look that the office lacks."""
    for name in [*[end[0] for end in ends], *[look[1] for look in looks]]:
        if name not in office.checks:
            raise NoCheck(name)
    for day, name, _ in looks:
        if (day, name) not in office.looks:
            raise BadDay(day)


def _weights_of(office, ends, looks):
    """The Weights with these numbers, and 0 for all other checks and looks."""
    _need_looks(office, ends, looks)
    by_check = {name: amount for name, amount in ends}
    by_look = {(day, name): amount for day, name, amount in looks}
    return Weights(
        tuple([(name, by_check.get(name, Amount(0))) for name in office.checks]),
        tuple([(look, by_look.get(look, Amount(0))) for look in office.looks]),
    )


def _read_plan(lines):
    """The gaps, the days and the shifts of a plan from line 1 on, and the index of the line behind them."""
    gaps = _read_line(lines, 1, _read_gaps_line)
    stop = _place_of_ends(lines, 3)
    days, shifts = _read_row_lines(lines, 2, stop)
    return gaps, days, shifts, stop


def read_answer(text, office):
    """The Lasting, Limited or Blocked with this text for an Office; raises BadText(line, word), then by its parts."""
    lines = _lines_of(text)
    word, rate = _read_line(lines, 0, _read_answer_line)
    gaps, days, shifts, at = _read_plan(lines) if word == "lasting" else (None, None, (), 1)
    ends = _read_line(lines, at, _read_ends_line)
    looks = _read_lines(lines, at + 1, len(lines), _read_look_line, (0, "", None))
    row = Row(office, days, shifts)
    weights = _weights_of(office, ends, looks)
    if word == "lasting":
        return Lasting(rate, gaps, row, weights)
    return Blocked(weights) if word == "blocked" else Limited(weights)
