"""Least costs under equations, by the simplex method in whole numbers."""

from math import gcd

from holeshift.amounts import Amount


def _lowest(row):
    """A row divided by the greatest integer that divides all its numbers."""
    shared = 0
    for number in row:
        shared = gcd(shared, number)
        if shared == 1:
            return row
    return [number // shared for number in row]


def _without(row, lead, column):
    """A row times an integer above 0, less so much of the lead that its number in this column becomes 0.

    The lead's number there is above 0.
    """
    if row[column] == 0:
        return row
    shared = gcd(row[column], lead[column])
    times, less = lead[column] // shared, row[column] // shared
    return _lowest([times * one - less * other for one, other in zip(row, lead)])


class Tableau:
    """Equations of numbers from 0 on, each times some integer above 0, solved for the numbers of a basis.

    Each row has the numbers of the columns, then those of one further column for each row, then its right side, then a
    0. The further columns are made first; an answer has none of them, and they tell the multipliers of the rows. The
    aims, what is apart and the costs, are such rows, too; the last number of each is what all of it is times.
    """

    def __init__(self, rows, right, costs):
        self.wide = len(costs)
        self.signs = [-1 if number < 0 else 1 for number in right]
        places = range(len(right))
        units = [[1 if place == other else 0 for other in places] for place in places]
        self.rows = [
            [*[sign * number for number in row], *unit, sign * last, 0]
            for row, unit, sign, last in zip(rows, units, self.signs, right)
        ]
        self.basis = [self.wide + place for place in places]
        apart = [-sum([row[column] for row in self.rows]) for column in range(self.wide)]
        self.apart = [*apart, *[0 for _ in places], -sum([row[-2] for row in self.rows]), 1]
        self.costs = [*costs, *[0 for _ in places], 0, 1]

    def pivot(self, at, column):
        """Take a column into the basis, in the place of the one of this row."""
        lead = self.rows[at]
        if lead[column] < 0:
            lead = [-number for number in lead]
        self.rows = [lead if place == at else _without(row, lead, column) for place, row in enumerate(self.rows)]
        self.apart = _without(self.apart, lead, column)
        self.costs = _without(self.costs, lead, column)
        self.basis[at] = column

    def leaving(self, column):
        """The row whose number first becomes 0 as the column's grows."""
        found = None
        for at, row in enumerate(self.rows):
            if row[column] <= 0:
                continue
            if found is None:
                found = at
                continue
            best = self.rows[found]
            ahead = row[-2] * best[column] - best[-2] * row[column]
            # The least column of several leaves, as otherwise the same bases could come round for ever.
            if ahead < 0 or ahead == 0 and self.basis[at] < self.basis[found]:
                found = at
        return found

    def entering(self, aim, careful):
        """The column that lowers an aim the most for one unit, or the first that does; None if there is none."""
        found = None
        for column in range(self.wide):
            if aim[column] < 0 and (found is None or aim[column] < aim[found]):
                found = column
                if careful:
                    break
        return found

    def descend(self, by_costs):
        """Pivot until nothing lowers the costs, or else what keeps the equations from holding."""
        idle = 0
        while True:
            # While pivots change no number, the first column is taken, so that no basis comes round for ever.
            column = self.entering(self.costs if by_costs else self.apart, idle > len(self.rows))
            if column is None:
                return
            at = self.leaving(column)
            idle = idle + 1 if self.rows[at][-2] == 0 else 0
            self.pivot(at, column)

    def settle(self):
        """Take the further columns out of the basis, where the equations are not told twice."""
        for at in range(len(self.basis)):
            columns = [column for column in range(self.wide) if self.rows[at][column] != 0]
            if self.basis[at] >= self.wide and columns:
                self.pivot(at, columns[0])

    def solution(self):
        """The number of each column."""
        found = [Amount(0) for _ in range(self.wide)]
        for row, column in zip(self.rows, self.basis):
            if column < self.wide:
                found[column] = Amount(row[-2], row[column])
        return found

    def multipliers(self, aim, own):
        """The multiplier of each row, by an aim whose further columns cost this at first."""
        further = aim[self.wide:-2]
        return [Amount(sign * (own * aim[-1] - number), aim[-1]) for sign, number in zip(self.signs, further)]


def least_costs(rows, right, costs):
    """What solves equations by numbers from 0 on with the least costs, from 0 on, all in whole numbers.

    Returns a pair: the values of the columns, and multipliers of the rows; the sums of the multipliers times the
    numbers of each column are at most its cost, and times the right side they are the least costs. If nothing solves
    them, the values are None, and the multipliers are such by which these sums are at most 0, and 1.
    """
    tableau = Tableau(rows, right, costs)
    tableau.descend(False)
    if tableau.apart[-2] != 0:
        apart = Amount(-tableau.apart[-2], tableau.apart[-1])
        return None, [number.over(apart) for number in tableau.multipliers(tableau.apart, 1)]
    tableau.settle()
    tableau.descend(True)
    return tableau.solution(), tableau.multipliers(tableau.costs, 0)
