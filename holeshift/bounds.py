"""Plans below a bound, and what shows one, or that there is none."""

from holeshift.errors import BadBound
from holeshift.lookers import Looker
from holeshift.prices import Lasting, Limited
from holeshift.rows import is_amount_from_0


def need_bound(bound):
    """Raise BadBound for any value that is neither None nor a number from 0 on."""
    if bound is not None and not is_amount_from_0(bound):
        raise BadBound(bound)


def is_below(answer, bound):
    """Whether the answer of price for an office tells that it has a plan below the bound."""
    return isinstance(answer, Lasting) and (bound is None or bool(answer.rate < bound))


def shows_plan(office, answer, bound):
    """Whether any value is an answer that shows a plan below the bound in the office."""
    if not isinstance(answer, Lasting) or not Looker(office).lasts(answer.gaps, answer.row):
        return False
    return bound is None or bool(answer.row.weight < bound)


def shows_none(office, answer, bound):
    """Whether any value is an answer that shows that no plan is below the bound in the office."""
    looker = Looker(office)
    if isinstance(answer, Limited):
        return looker(answer)
    if not isinstance(answer, Lasting) or bound is None:
        return False
    return looker.bears(answer.weights, answer.rate) and bool(answer.rate >= bound)
