"""Names of accounts, kinds of shifts, checks and hands."""

from holeshift.errors import BadName

LETTERS = "abcdefghijklmnopqrstuvwxyz"
MOST_LETTERS = 8


def is_name(value):
    """Whether any value is a string of 1 to 8 letters from a to z."""
    if not isinstance(value, str) or not 1 <= len(value) <= MOST_LETTERS:
        return False
    return all([letter in LETTERS for letter in value])


def need_name(value):
    """Raise BadName(value) for any value that is no name."""
    if not is_name(value):
        raise BadName(value)
