"""Which hands can shift what is missing together, and whom to watch."""

from holeshift.bounds import is_below, need_bound, shows_none, shows_plan
from holeshift.choices import least_sets, shows_least
from holeshift.errors import TooMany
from holeshift.prices import price

MOST_HANDS = 4


def _equal(one, other):
    """Whether two sets of hands have equal attributes."""
    return one.hands == other.hands and one.answer == other.answer and one.less == other.less


class Party:
    """The base class of the sets of hands, which are papers."""

    WORD = "party"

    def __init__(self, hands, answer, less):
        self.hands = hands
        self.answer = answer
        self.less = less

    def __len__(self):
        return len(self.hands)

    def __contains__(self, hand):
        return isinstance(hand, str) and hand in self.hands

    def __eq__(self, other):
        return isinstance(other, Party) and self.WORD == other.WORD and _equal(self, other)


class Band(Party):
    """A least set of hands that have a plan below a bound together."""

    WORD = "band"

    def __init__(self, hands, answer, less):
        super().__init__(hands, answer, less)

    def __len__(self):
        return len(self.hands)

    def __contains__(self, hand):
        return isinstance(hand, str) and hand in self.hands

    def __eq__(self, other):
        return isinstance(other, Band) and _equal(self, other)


class Guard(Party):
    """A least set of hands without which no plan is below a bound."""

    WORD = "guard"

    def __init__(self, hands, answer, less):
        super().__init__(hands, answer, less)

    def __len__(self):
        return len(self.hands)

    def __contains__(self, hand):
        return isinstance(hand, str) and hand in self.hands

    def __eq__(self, other):
        return isinstance(other, Guard) and _equal(self, other)


def _need_few(office, bound):
    """Raise BadBound, then TooMany if the office has too many hands."""
    need_bound(bound)
    if len(office.hands) > MOST_HANDS:
        raise TooMany("hands", MOST_HANDS)


def bands(office, *, bound=None):
    """The list of the Bands: the least sets of hands that have a plan below the bound."""
    _need_few(office, bound)
    found = least_sets(
        office.hands,
        lambda hands: price(office.with_hands(*hands)),
        lambda answer: is_below(answer, bound),
    )
    return [Band(hands, answer, less) for hands, answer, less in found]


def guards(office, *, bound=None):
    """The list of the Guards: the least sets of hands without which no plan is below the bound."""
    _need_few(office, bound)
    found = least_sets(
        office.hands,
        lambda hands: price(office.without_hands(*hands)),
        lambda answer: not is_below(answer, bound),
    )
    return [Guard(hands, answer, less) for hands, answer, less in found]


def cheapest_guard(office, costs, *, bound=None):
    """The first Guard with the least sum of the costs of its hands; None if there is no guard."""
    best = None
    least = 0
    for guard in guards(office, bound=bound):
        cost = sum([costs[hand] for hand in guard.hands])
        if best is None or cost < least:
            best = guard
            least = cost
    return best


def _are_hands(office, value):
    """Whether any value is an ascending tuple of hands of the office."""
    if not isinstance(value, tuple) or not all([hand in office.hands for hand in value]):
        return False
    return value == tuple([hand for hand in office.hands if hand in value])


def shows_band(office, value, *, bound=None):
    """Whether any value is a Band that is right for the office."""
    need_bound(bound)
    if not isinstance(value, Band) or not _are_hands(office, value.hands):
        return False
    return shows_least(
        value.hands, value,
        lambda hands: office.with_hands(*hands),
        lambda part, answer: shows_plan(part, answer, bound),
        lambda some, answer: shows_none(some, answer, bound),
    )


def shows_guard(office, value, *, bound=None):
    """Whether any value is a Guard that is right for the office."""
    need_bound(bound)
    if not isinstance(value, Guard) or not _are_hands(office, value.hands):
        return False
    return shows_least(
        value.hands, value,
        lambda hands: office.without_hands(*hands),
        lambda part, answer: shows_none(part, answer, bound),
        lambda some, answer: shows_plan(some, answer, bound),
    )
