"""Shadows: the least wide part of one share that is wider than another one."""

from curtainsteps.amounts import is_within
from curtainsteps.errors import BadPaper
from curtainsteps.exact import NOUGHT, added, is_below, multiplied, scaled, sum_of
from curtainsteps.flows import flow_rows, flow_sums
from curtainsteps.forms import has_sort, is_fraction_row, is_number, is_row, is_row_of
from curtainsteps.shares import need_share
from curtainsteps.simplex import solved
from curtainsteps.steps import end_share, is_table, start_share
from curtainsteps.tables import built_from_left

SORTS = (("shadow", 3), ("bar", 3))


def is_part(one, other):
    """Whether one is within other."""
    return is_within(need_share(one), need_share(other))


def shadow(one, other):
    """The SHADOW of one in other, or None."""
    table = built_from_left(need_share(one), need_share(other))
    return None if table is None else end_share(table)


def spans_of(table):
    """The SPANS of a TABLE whose steps from each X go to a WINDOW of what was left."""
    ends = {}
    for x, y, _ in table:
        ends.setdefault(x, []).append(y)
    spans = []
    for low, high in sorted([(found[0], found[-1]) for found in ends.values() if found[0] < found[-1]]):
        # Spans that only touch stay apart: at the place where they do, something may be left.
        if spans and low < spans[-1][1]:
            last = spans.pop()
            low, high = last[0], max(last[1], high)
        spans.append((low, high))
    return tuple(spans)


def bar_of(one, other):
    """The PAPER with "bar", there being no SHADOW of one in other."""
    rows = flow_rows(one, other)
    # What is left of each pair of other is a value of its own.
    spare = [[1 if row == 2 * len(one) + column else 0 for column in range(len(other))] for row in range(len(rows))]
    both = [steps + left for steps, left in zip(rows, spare)]
    _, worths = solved(both, flow_sums(one, other), [0] * ((len(one) + 1) * len(other)))
    many = len(one)
    return ("bar", tuple(worths[:many]), tuple(worths[many:2 * many]))


def shadow_paper(one, other):
    """A PAPER on the SHADOW of one in other."""
    table = built_from_left(need_share(one), need_share(other))
    return bar_of(one, other) if table is None else ("shadow", table, spans_of(table))


def is_span(thing):
    """Whether it is a pair of NUMBERS, the first one less."""
    return is_row_of(thing, 2) and is_number(thing[0]) and is_number(thing[1]) and thing[0] < thing[1]


def are_spans(thing):
    """Whether it is a tuple of spans, each ending ahead of the next one."""
    if not is_row(thing) or not all([is_span(item) for item in thing]):
        return False
    return all([ahead[1] <= behind[0] for ahead, behind in zip(thing, thing[1:])])


def are_full(spans, end, other):
    """Whether strictly within each of SPANS an END has all that other has."""
    return all([pair in end for low, high in spans for pair in other if low < pair[0] and pair[0] < high])


def stays_within(table, x, spans):
    """Whether all steps from X go to itself, or it and they all lie in one of SPANS."""
    reached = [x] + [y for start, y, _ in table if start == x]
    if min(reached) == max(reached):
        return True
    return any([low <= min(reached) and max(reached) <= high for low, high in spans])


def is_shadow_so(one, other, table, spans):
    """Whether the things of a paper with "shadow" are so."""
    if not is_table(table) or start_share(table) != one:
        return False
    end = end_share(table)
    if not is_within(end, other) or not are_spans(spans) or not are_full(spans, end, other):
        return False
    return all([stays_within(table, x, spans) for x, _ in one])


def dearest_price(one, prices, gains, y):
    """The greatest of nought and of what is told for steps from each pair of one to Y."""
    best = NOUGHT
    for (x, _), price, gain in zip(one, prices, gains):
        told = added(price, scaled(gain, y - x))
        if is_below(best, told):
            best = told
    return best


def is_bar_so(one, other, prices, gains):
    """Whether the things of a paper with "bar" are so."""
    if not is_fraction_row(prices, len(one)) or not is_fraction_row(gains, len(one)):
        return False
    asked = sum_of([multiplied(price, weight) for price, (_, weight) in zip(prices, one)])
    given = sum_of([multiplied(dearest_price(one, prices, gains, y), weight) for y, weight in other])
    return is_below(given, asked)


def check_shadow(one, other, paper):
    """The first word of a paper that holds on the SHADOW of one in other."""
    need_share(one)
    need_share(other)
    if not has_sort(paper, SORTS):
        raise BadPaper("form")
    word, first, second = paper
    holds = is_shadow_so(one, other, first, second) if word == "shadow" else is_bar_so(one, other, first, second)
    if not holds:
        raise BadPaper(word)
    return word
