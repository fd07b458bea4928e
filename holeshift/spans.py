"""Sums of multiples of vectors, which are lists of as many integers each."""

from holeshift.amounts import sum_of_products
from holeshift.simplex import least_costs


def multiples_of(vectors, aim):
    """Multiples of the vectors whose sum is the aim, or what shows that there are none.

    Returns a pair: the multiples and None, or None and numbers that make 0 with each vector and 1 with the aim, if
    they are multiplied place by place and added up.
    """
    rows = [[*[vector[at] for vector in vectors], *[-vector[at] for vector in vectors]] for at in range(len(aim))]
    many = len(vectors)
    values, numbers = least_costs(rows, aim, [0 for _ in range(2 * many)])
    if values is None:
        return None, numbers
    return [values[at] - values[at + many] for at in range(many)], None


def is_sum(pairs, aim):
    """Whether the sum of the vectors, each times its Amount, of a list of pairs (vector, Amount) is the aim."""
    for at, number in enumerate(aim):
        found = sum_of_products([(amount, vector[at]) for vector, amount in pairs])
        if found != number:
            return False
    return True
