"""The texts of offices, rows and answers."""

from holeshift.prices import Blocked, Lasting


def office_text(office):
    """The text of an Office: a line of its days and accounts, then one of each item."""
    accounts = office.accounts
    first = " ".join(["office", str(office.days), *accounts])
    return "\n".join([first, *[f"{name} {office[name]}" for name in office.names]])


def row_text(row):
    """The text of a Row: a line of its days, then one of each amount above 0."""
    lines = row.lines
    return "\n".join([f"row {row.days}", *lines])


def _first_lines(answer):
    """The lines of an answer ahead of its weights."""
    if isinstance(answer, Lasting):
        return [f"lasting {answer.rate}", str(answer.gaps), row_text(answer.row)]
    return ["blocked" if isinstance(answer, Blocked) else "limited"]


def answer_text(answer):
    """The text of an answer of price: what it is, with its plan if it has one, then its weights other than 0."""
    ends = [f"{name} {number}" for name, number in answer.weights.ends if number != 0]
    looks = [f"{look[0]} {look[1]} {number}" for look, number in answer.weights.looks if number != 0]
    return "\n".join([*_first_lines(answer), " ".join(["ends", *ends]), *looks])
