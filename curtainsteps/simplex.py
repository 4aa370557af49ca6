"""Linear programs in exact numbers, by a table of integers over one common divisor.

Sought are values from nought on, one for each column, such that each row of integers, times these values, makes its
sum; and of all such values those with the least price.
"""

from math import lcm

from curtainsteps.exact import lowered

# The two rows behind those for the sums.
PRICE = -2
LACK = -1


def cleared(row, solved_row, column, scale):
    """A row without the free value of a column, for which another row has been solved."""
    factor = row[column]
    pivot = solved_row[column]
    # Each entry is a minor of the first table: the division by the scale ahead leaves nothing over.
    fresh = [(entry * pivot - factor * by) // scale for entry, by in zip(row, solved_row)]
    fresh[column] = -factor
    return fresh


class Tableau:
    """Rows that are solved for one value each, which they keep; all other values are free, and nought for now.

    A row says: scale times the value that it keeps, and each entry times the free value of its column, are together
    its last entry. What lacks to each sum is a value, too, with a number behind those of the columns. The last two
    rows keep the price and all that lacks.
    """

    def __init__(self, rows, prices):
        """The last entry of each row is its sum, from 0 on."""
        self.columns = len(prices)
        self.scale = 1
        self.free = list(range(self.columns))
        self.kept = [self.columns + place for place in range(len(rows))]
        price_row = [-price for price in prices] + [0]
        lack_row = [sum([row[column] for row in rows]) for column in range(self.columns + 1)]
        self.rows = [*rows, price_row, lack_row]

    def turn(self, place, column):
        """The row at a place keeps the free value of a column from now on, and the one that it kept is free."""
        row = self.rows[place]
        rows = [cleared(other, row, column, self.scale) for other in self.rows]
        rows[place] = list(row)
        rows[place][column] = self.scale
        self.scale = row[column]
        if self.scale < 0:
            self.scale = -self.scale
            rows = [[-entry for entry in other] for other in rows]
        self.rows = rows
        self.free[column], self.kept[place] = self.kept[place], self.free[column]

    def usable(self):
        """The columns whose free value may rise: what lacks never does again."""
        return [column for column, value in enumerate(self.free) if value < self.columns]

    def entering(self, aim, steep):
        """A column with which the row for an aim falls, or None."""
        row = self.rows[aim]
        falling = [column for column in self.usable() if row[column] > 0]
        if not falling:
            return None
        if steep:
            return max(falling, key=lambda column: row[column])
        return min(falling, key=lambda column: self.free[column])

    def is_sooner(self, place, other, column):
        """Whether the row at a place comes to nought ahead of another one, as the free value of a column rises."""
        mine = self.rows[place][-1] * self.rows[other][column]
        its = self.rows[other][-1] * self.rows[place][column]
        return (mine, self.kept[place]) < (its, self.kept[other])

    def leaving(self, column):
        """The place of the row that comes to nought first, as the free value of a column rises."""
        first = None
        for place in range(len(self.kept)):
            if self.rows[place][column] > 0 and (first is None or self.is_sooner(place, first, column)):
                first = place
        return first

    def descend(self, aim):
        """Turns until the row for an aim cannot fall."""
        column = self.entering(aim, True)
        while column is not None:
            place = self.leaving(column)
            # Behind a turn that gained nothing the one with the least number goes first: so no turn comes again.
            gains = self.rows[place][-1] > 0
            self.turn(place, column)
            column = self.entering(aim, gains)

    def settle(self):
        """Frees all that lacks, it being nought, where this is possible: elsewhere no turn can change it."""
        for place in range(len(self.kept)):
            if self.kept[place] >= self.columns:
                fit = [column for column in self.usable() if self.rows[place][column] != 0]
                if fit:
                    self.turn(place, fit[0])

    def results(self):
        """The value of each column, times scale."""
        ends = {value: self.rows[place][-1] for place, value in enumerate(self.kept)}
        return [ends.get(column, 0) for column in range(self.columns)]

    def weights_of_lacks(self, aim):
        """The entry of the row for an aim for what lacks to each sum; 0 of what is kept."""
        entries = {value: self.rows[aim][column] for column, value in enumerate(self.free)}
        return [entries.get(self.columns + place, 0) for place in range(len(self.kept))]


def whole_sums(sums):
    """The integers that fractions are, all times one, and this one."""
    common = 1
    for _, bottom in sums:
        common = lcm(common, bottom)
    return [top * (common // bottom) for top, bottom in sums], common


def solved(rows, sums, prices):
    """The values with the least price, and what one more of each sum is worth: two lists of fractions.

    No column, times what the sums are worth, is more than its price, and the sums, times it, are the least price.
    If there are no such values, None stands in their place: then no column, times the second list, is more than
    nought, and the sums, times it, are 1. The sums are fractions; no price may fall without end.
    """
    tops, common = whole_sums(sums)
    signs = [-1 if top < 0 else 1 for top in tops]
    table = Tableau([[sign * entry for entry in [*row, top]] for sign, row, top in zip(signs, rows, tops)], prices)
    table.descend(LACK)
    lack = table.rows[LACK][-1]
    if lack != 0:
        entries = [table.scale + entry for entry in table.weights_of_lacks(LACK)]
        return None, [lowered(sign * entry * common, lack) for sign, entry in zip(signs, entries)]
    table.settle()
    table.descend(PRICE)
    found = [lowered(value, table.scale * common) for value in table.results()]
    worths = [lowered(sign * entry, table.scale) for sign, entry in zip(signs, table.weights_of_lacks(PRICE))]
    return found, worths
