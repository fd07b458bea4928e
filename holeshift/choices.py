"""The least sets of some parts with which an office does something, and what shows that they are such."""


def without(parts, at):
    """A tuple of the parts but for the one at this index."""
    return tuple([part for place, part in enumerate(parts) if place != at])


def subsets(parts):
    """The tuples of some of these parts, by their numbers of parts, then as tuples; the parts are ascending."""
    found = [()]
    layer = [(-1, ())]
    for _ in parts:
        layer = [(at, (*some, parts[at])) for last, some in layer for at in range(last + 1, len(parts))]
        found.extend([told[1] for told in layer])
    return found


def least_sets(parts, answer_of, is_wanted):
    """The least sets of these ascending parts whose answers are wanted, in the order of subsets.

    With a set, all sets that have its parts have wanted answers, too. Returns tuples: the set, its answer, and the
    tuple of the answers for the set without each of its parts.
    """
    answers = {}
    found = []
    for some in subsets(parts):
        if any([all([part in some for part in least]) for least in found]):
            continue
        answers[some] = answer_of(some)
        if is_wanted(answers[some]):
            found.append(some)
    return [(some, answers[some], tuple([answers[without(some, at)] for at in range(len(some))])) for some in found]


def shows_least(parts, paper, office_of, shows, shows_less):
    """Whether the answer of a paper shows what it must for its parts, and its less for all but one of them.

    Both are asked as shows(office, answer), of the office of just these parts.
    """
    less = paper.less
    if not isinstance(less, tuple) or len(less) != len(parts) or not shows(office_of(parts), paper.answer):
        return False
    return all([shows_less(office_of(without(parts, at)), less[at]) for at in range(len(parts))])
