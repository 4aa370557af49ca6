"""Crossings of tables, and tables that are mended at them."""

from curtainsteps.amounts import gathered
from curtainsteps.errors import BadCrossing
from curtainsteps.exact import divided, lesser, lowered, multiplied, scaled, sum_of
from curtainsteps.forms import is_row_of, is_whole
from curtainsteps.tables import need_table


def crossings(table):
    """The ascending tuple of all CROSSINGS."""
    need_table(table)
    spans = [(x, y, y3) for x, y, _ in table for x1, y3, _ in table if x1 == x and y < y3]
    found = [
        (x, x2, y, y2, y3)
        for x, y, y3 in spans
        for x2, y2, _ in table
        if x < x2 and y < y2 and y2 < y3
    ]
    return tuple(sorted(found))


def is_left(table):
    """Whether a TABLE has no CROSSING."""
    return crossings(table) == ()


def is_crossing(table, thing):
    """Whether it is a CROSSING of a TABLE."""
    if not is_row_of(thing, 5) or not all([is_whole(item) for item in thing]):
        return False
    return thing in crossings(table)


def changes(weights, crossing):
    """What the steps gain and lose by mending: pairs of (X, Y) and a fraction, below nought for a loss."""
    x, x2, y, y2, y3 = crossing
    low = lowered(y3 - y2, y3 - y)
    high = lowered(y2 - y, y3 - y)
    outer = lesser(divided(weights[(x, y)], low), divided(weights[(x, y3)], high))
    most = lesser(outer, weights[(x2, y2)])
    to_low = multiplied(most, low)
    to_high = multiplied(most, high)
    return [
        ((x, y), scaled(to_low, -1)), ((x, y2), most), ((x, y3), scaled(to_high, -1)),
        ((x2, y), to_low), ((x2, y2), scaled(most, -1)), ((x2, y3), to_high),
    ]


def mended(table, crossing):
    """The TABLE MENDED at a CROSSING."""
    need_table(table)
    if not is_crossing(table, crossing):
        raise BadCrossing(crossing)
    steps = [((x, y), weight) for x, y, weight in table]
    return tuple([(x, y, weight) for (x, y), weight in gathered(steps + changes(dict(steps), crossing))])


def bend(table):
    """The BEND."""
    return sum_of([scaled(weight, x * y * y) for x, y, weight in need_table(table)])
