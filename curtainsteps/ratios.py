"""Fractions: pairs of integers in least terms."""

from curtainsteps.errors import BadFraction, BadNumber
from curtainsteps.exact import NOUGHT, added, divided, is_below, lessened, lowered, multiplied
from curtainsteps.forms import is_fraction, is_whole


def need_fraction(thing):
    """The thing itself; BadFraction of what is no FRACTION."""
    if not is_fraction(thing):
        raise BadFraction(thing)
    return thing


def ratio(top, bottom):
    """The FRACTION that top divided by bottom is worth."""
    if not is_whole(top):
        raise BadNumber(top)
    if not is_whole(bottom) or bottom == 0:
        raise BadNumber(bottom)
    return lowered(top, bottom)


def plus(one, other):
    """The sum."""
    return added(need_fraction(one), need_fraction(other))


def less(one, other):
    """The first one less the second one."""
    return lessened(need_fraction(one), need_fraction(other))


def times(one, other):
    """The product."""
    return multiplied(need_fraction(one), need_fraction(other))


def over(one, other):
    """The first one divided by the second one."""
    need_fraction(one)
    if need_fraction(other) == NOUGHT:
        raise BadFraction(other)
    return divided(one, other)


def is_less(one, other):
    """Whether the first one is worth less."""
    return is_below(need_fraction(one), need_fraction(other))
