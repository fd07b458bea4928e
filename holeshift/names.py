"""Names of accounts, kinds of shifts, checks and hands."""

from holeshift.errors import BadName, Clash

MOST_LETTERS = 8


def is_name(value):
    """Whether any value is a string of 1 to 8 letters from a to z."""
    if not isinstance(value, str) or not 1 <= len(value) <= MOST_LETTERS:
        return False
    # Letters of other scripts can be lower ones, too.
    return value.isascii() and value.isalpha() and value.islower()


def need_name(value):
    """Raise BadName(value) for any value that is no name."""
    if not is_name(value):
        raise BadName(value)


def new_names(accounts, names):
    """A dict from these accounts, ascending ones, to their new names; one that the dict of names lacks stays.

    Raises BadName(value) with the first new name that is none, then Clash(name) with the least one that comes twice.
    """
    found = {account: names.get(account, account) for account in accounts}
    for name in found.values():
        need_name(name)
    ascending = sorted([str(name) for name in found.values()])
    for one, other in zip(ascending, ascending[1:]):
        if one == other:
            raise Clash(one)
    return found
