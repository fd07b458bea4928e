"""The words of a text: what each one tells, and the first that cannot stand."""

from holeshift.amounts import Amount
from holeshift.errors import BadText
from holeshift.names import is_name

MOST_DAY_FIGURES = 60


def as_name(word):
    """The name that a word is, or None."""
    return word if is_name(word) else None


def as_day(word):
    """The integer from 0 that a word tells as str does, or None."""
    if not word.isascii() or not word.isdigit() or len(word) > MOST_DAY_FIGURES:
        return None
    return int(word) if word == "0" or not word.startswith("0") else None


def as_amount(word):
    """The Amount that a word tells, or None."""
    try:
        return Amount.read(word)
    except BadText:
        return None


def read_word(words, at, reading):
    """What a reading finds in the word at this index; raises BadText(0, at) if it is missing or cannot stand."""
    found = reading(words[at]) if at < len(words) else None
    if found is None:
        raise BadText(0, at)
    return found


def need_end(words, at):
    """Raise BadText(0, at) for a word behind the last one."""
    if len(words) > at:
        raise BadText(0, at)
