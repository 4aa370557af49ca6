"""Exact arithmetic over fractions, unchecked: the caller passes what are fractions already."""

from math import gcd

NOUGHT = (0, 1)


def lowered(top, bottom):
    """The fraction that top divided by bottom is worth; bottom is not 0."""
    common = gcd(top, bottom)
    if bottom < 0:
        common = -common
    return (top // common, bottom // common)


def added(one, other):
    """The sum of both."""
    return lowered(one[0] * other[1] + other[0] * one[1], one[1] * other[1])


def lessened(one, other):
    """The first one less the second one."""
    return lowered(one[0] * other[1] - other[0] * one[1], one[1] * other[1])


def multiplied(one, other):
    """The product of both."""
    return lowered(one[0] * other[0], one[1] * other[1])


def divided(one, other):
    """The first one divided by the second one, which is not nought."""
    return lowered(one[0] * other[1], one[1] * other[0])


def scaled(fraction, by):
    """A fraction times an integer."""
    return lowered(fraction[0] * by, fraction[1])


def is_below(one, other):
    """Whether the first one is worth less."""
    return one[0] * other[1] < other[0] * one[1]


def lesser(one, other):
    """The one that is worth less."""
    return one if is_below(one, other) else other


def sum_of(fractions):
    """The sum of a list of fractions."""
    whole = NOUGHT
    for fraction in fractions:
        whole = added(whole, fraction)
    return whole
