"""The answers for an office: whether what is missing can be shifted past all checks for ever, and at which price."""

from holeshift.amounts import Amount
from holeshift.errors import BadAmount
from holeshift.gaps import Gaps
from holeshift.rows import Row, is_amount_from_0
from holeshift.simplex import least_costs
from holeshift.weights import Weights


class Answer:
    """The base class of the answers, which are papers."""

    WORD = "answer"

    def __init__(self, weights):
        self.weights = weights

    def __bool__(self):
        return False

    def __eq__(self, other):
        return isinstance(other, Answer) and self.WORD == other.WORD and self.weights == other.weights


class Lasting(Answer):
    """The rate of an office, a plan that pays it, and weights that bear it."""

    WORD = "lasting"

    def __init__(self, rate, gaps, row, weights):
        super().__init__(weights)
        self.rate = rate
        self.gaps = gaps
        self.row = row

    def __bool__(self):
        return True

    def __eq__(self, other):
        if not isinstance(other, Lasting) or not self.rate == other.rate or not self.gaps == other.gaps:
            return False
        return self.row == other.row and self.weights == other.weights


class Limited(Answer):
    """Weights that limit."""

    WORD = "limited"

    def __init__(self, weights):
        super().__init__(weights)

    def __bool__(self):
        return False

    def __eq__(self, other):
        return isinstance(other, Limited) and self.WORD == other.WORD and self.weights == other.weights

    def most_rounds(self, bound):
        """How many rounds a row can have whose checks see sums of at most this size at its ends."""
        if not is_amount_from_0(bound):
            raise BadAmount(bound)
        sizes = Amount.total([abs(end) for _, end in self.weights.ends])
        return 2 * bound * sizes // 1


class Blocked(Limited):
    """Weights that limit, and whose ends are all 0."""

    WORD = "blocked"

    def __init__(self, weights):
        super().__init__(weights)

    def __bool__(self):
        return False

    def __eq__(self, other):
        return isinstance(other, Blocked) and self.weights == other.weights


def _look_rows(office, places):
    """For each look the equation that it sees 0: by the amounts in these places, the gaps and their negatives."""
    found = []
    for day, name in office.looks:
        check = office[name]
        moved = [check.moved_by(office[kind]) if on <= day else 0 for on, kind in places]
        seen = [check[account] for account in office.accounts]
        found.append([*moved, *seen, *[-number for number in seen]])
    return found


def _end_rows(office, places):
    """For each check the equation that it sees the same at both ends of a round."""
    rest = [0 for _ in range(2 * len(office.accounts))]
    return [[*[office[name].moved_by(office[kind]) for _, kind in places], *rest] for name in office.checks]


def _solved(office, places, ends):
    """The cheapest row of one round that passes from gaps with the hole 1, with these equations of the ends."""
    accounts = range(len(office.accounts))
    hole = [*[0 for _ in places], *[1 for _ in accounts], *[-1 for _ in accounts]]
    rows = [*_look_rows(office, places), *ends, hole]
    costs = [*[office[kind].weight for _, kind in places], *[0 for _ in accounts], *[0 for _ in accounts]]
    return least_costs(rows, [*[0 for _ in rows[1:]], 1], costs)


def _weights(office, looks, ends):
    """The Weights with these numbers."""
    return Weights(tuple(zip(office.checks, ends)), tuple(zip(office.looks, looks)))


def price(office):
    """The answer for an office: Lasting, Blocked or Limited."""
    places = [(day, kind) for day in range(office.days) for kind in office.kinds_on(day)]
    looks = len(office.looks)
    values, multipliers = _solved(office, places, _end_rows(office, places))
    if values is None:
        blocked, numbers = _solved(office, places, [])
        if blocked is None:
            return Blocked(_weights(office, numbers[:looks], [Amount(0) for _ in office.checks]))
        return Limited(_weights(office, multipliers[:looks], multipliers[looks:-1]))
    many = len(places)
    accounts = office.accounts
    gaps = Gaps({account: values[many + at] - values[many + at + len(accounts)] for at, account in enumerate(accounts)})
    row = Row(office, None, [(day, kind, values[at]) for at, (day, kind) in enumerate(places)])
    return Lasting(row.weight, gaps, row, _weights(office, multipliers[:looks], multipliers[looks:-1]))
