"""The words of the document once more, told by Python's own fractions and by plain search."""

from fractions import Fraction
from itertools import product


def worth(pair):
    return Fraction(pair[0], pair[1])


def told(value):
    value = Fraction(value)
    return (value.numerator, value.denominator)


def share_of(weights):
    """A SHARE from a dict of numbers and what Fraction takes."""
    return tuple((number, told(weights[number])) for number in sorted(weights) if weights[number] != 0)


def table_of(weights):
    """A TABLE from a dict of pairs (X, Y) and what Fraction takes."""
    return tuple((x, y, told(weights[x, y])) for x, y in sorted(weights) if weights[x, y] != 0)


def total(share):
    return sum((worth(weight) for _, weight in share), Fraction(0))


def moment(share):
    return sum((number * worth(weight) for number, weight in share), Fraction(0))


def rest(share, mark):
    return sum(((number - mark) * worth(weight) for number, weight in share if number > mark), Fraction(0))


def lesser_marks(one, other):
    """All NUMBERS above which other has the lesser REST."""
    return [mark for mark in range(-100, 101) if rest(other, mark) < rest(one, mark)]


def wider(one, other):
    if total(one) != total(other) or moment(one) != moment(other):
        return False
    return lesser_marks(one, other) == []


def window(share, value):
    """Whether a SHARE is a WINDOW of another one."""
    if value == ():
        return False
    there = {number: worth(weight) for number, weight in share}
    here = {number: worth(weight) for number, weight in value}
    if any(number not in there or there[number] < here[number] for number in here):
        return False
    low, high = min(here), max(here)
    return all(here.get(number) == there[number] for number in there if low < number < high)


def windows(share, parts):
    """All WINDOWS of a SHARE whose WEIGHTS are whole parts of 1."""
    choices = [range(int(worth(weight) * parts) + 1) for _, weight in share]
    for choice in product(*choices):
        weights = {number: Fraction(many, parts) for (number, _), many in zip(share, choice)}
        value = share_of(weights)
        if window(share, value):
            yield value


def start(table):
    weights = {}
    for x, _, weight in table:
        weights[x] = weights.get(x, 0) + worth(weight)
    return share_of(weights)


def end(table):
    weights = {}
    for _, y, weight in table:
        weights[y] = weights.get(y, 0) + worth(weight)
    return share_of(weights)


def is_table(table):
    steps = [(x, y) for x, y, _ in table]
    if steps != sorted(set(steps)):
        return False
    drift = {}
    for x, y, weight in table:
        drift[x] = drift.get(x, 0) + worth(weight) * (y - x)
    return all(value == 0 for value in drift.values()) and all(worth(weight) > 0 for _, _, weight in table)


def bend(table):
    return sum((worth(weight) * x * y * y for x, y, weight in table), Fraction(0))


def crossings(table):
    steps = {(x, y) for x, y, _ in table}
    starts = sorted({x for x, _ in steps})
    ends = sorted({y for _, y in steps})
    return tuple(
        (x, x2, y, y2, y3)
        for x, x2 in product(starts, repeat=2) if x < x2
        for y, y2, y3 in product(ends, repeat=3)
        if y < y2 < y3 and {(x, y), (x, y3), (x2, y2)} <= steps
    )
