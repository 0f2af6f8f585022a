"""Fractions, and greatest sums under limits."""

from math import gcd

from leastlooks.checks import is_whole


class Sheet:
    """The integers on which `best_sum` works; each of them stands for itself divided by `base`.

    A line has a column for each part, one for what each row leaves of its limit, and at last the limit.
    `held` names the column whose number each line tells; the columns that no line holds have the number 0.
    The line behind these has the sum at last, and an integer below 0 for each column that makes it greater.
    """

    def __init__(self, rows, limits, gains):
        count = len(rows)
        self.base = 1
        self.held = [len(gains) + at for at in range(count)]
        self.lines = [list(row) + _unit(at, count) + [limits[at]] for at, row in enumerate(rows)]
        self.lines.append([-gain for gain in gains] + [0] * (count + 1))

    def entering(self):
        """The first column that makes the sum greater, or None."""
        # The first columns, here and in `leaving`, so that no turns lead round in a ring where limits are 0.
        columns = [at for at, number in enumerate(self.lines[-1][:-1]) if number < 0]
        return columns[0] if columns else None

    def leaving(self, column):
        """The line that limits a column most, or None; of several, the one that holds the first column."""
        best = None
        for at in range(len(self.held)):
            if self.lines[at][column] > 0 and (best is None or self.is_tighter(at, best, column)):
                best = at
        return best

    def is_tighter(self, first, second, column):
        """Whether the first line limits a column more than the second one, or as much but comes before it."""
        one = self.lines[first][-1] * self.lines[second][column]
        two = self.lines[second][-1] * self.lines[first][column]
        return one < two or (one == two and self.held[first] < self.held[second])

    def turn(self, at, column):
        """Let a line hold a column."""
        line = self.lines[at]
        lines = [_cleared(other, line, column, self.base) for other in self.lines]
        lines[at] = line
        self.lines = lines
        self.base = line[column]
        self.held[at] = column

    def number(self, column):
        """The number of a column."""
        if column not in self.held:
            return 0, 1
        return fraction(self.lines[self.held.index(column)][-1], self.base)


def fraction(top, bottom):
    """The fraction that is one integer divided by another one."""
    shared = gcd(top, bottom)
    if bottom < 0:
        shared = -shared
    return top // shared, bottom // shared


def is_fraction(value):
    """Whether a value is a fraction."""
    if not isinstance(value, tuple) or len(value) != 2:
        return False
    top, bottom = value
    return is_whole(top) and is_whole(bottom) and bottom >= 1 and gcd(top, bottom) == 1


def best_sum(rows, limits, gains):
    """The greatest sum with its parts and prices, as the tuple (value, parts, prices), or None."""
    sheet = Sheet(rows, limits, gains)
    column = sheet.entering()
    while column is not None:
        at = sheet.leaving(column)
        if at is None:
            return None
        sheet.turn(at, column)
        column = sheet.entering()
    prices = [fraction(number, sheet.base) for number in sheet.lines[-1][len(gains):]]
    value = prices.pop()
    return value, [sheet.number(column) for column in range(len(gains))], prices


def is_best_sum(rows, limits, gains, value):
    """Whether a value is a tuple (value, parts, prices) that shows the greatest sum."""
    if not isinstance(value, tuple) or len(value) != 3:
        return False
    total, parts, prices = value
    if not (is_fraction(total) and _are_numbers(parts, len(gains)) and _are_numbers(prices, len(rows))):
        return False
    # A sum that parts reach and that prices show to be enough for all parts is the greatest one.
    if _sum(gains, parts) != total or _sum(limits, prices) != total:
        return False
    kept = [_is_most(_sum(row, parts), limit) for row, limit in zip(rows, limits)]
    paid = [_is_least(_sum([row[at] for row in rows], prices), gain) for at, gain in enumerate(gains)]
    return all(kept) and all(paid)


def _unit(at, count):
    """A list of so many integers: 1 at an index, and 0 at the others."""
    return [1 if place == at else 0 for place in range(count)]


def _cleared(other, line, column, base):
    """What is left of a line when another one takes over a column."""
    # The division leaves no rest, since all integers of a sheet are determinants of those at its beginning.
    return [(number * line[column] - other[column] * mine) // base for number, mine in zip(other, line)]


def _are_numbers(value, count):
    """Whether a value is a list of so many fractions of at least 0."""
    if not isinstance(value, (list, tuple)) or len(value) != count:
        return False
    return all([is_fraction(item) and item[0] >= 0 for item in value])


def _sum(integers, fractions):
    """The sum of fractions that are multiplied by integers."""
    top, bottom = 0, 1
    for integer, (upper, lower) in zip(integers, fractions):
        top, bottom = fraction(top * lower + integer * upper * bottom, bottom * lower)
    return top, bottom


def _is_most(number, limit):
    """Whether a fraction is at most an integer."""
    return number[0] <= limit * number[1]


def _is_least(number, gain):
    """Whether a fraction is at least an integer."""
    return number[0] >= gain * number[1]
