"""Whether a thing, of any kind, is what the package calls a number, a fraction, a share and so on.

A class that comes from int, str or tuple does not count: what the package takes and gives is plain.
"""

from math import gcd

MOST_PAIRS = 8
MOST_LETTERS = 8
LETTERS = "abcdefghijklmnopqrstuvwxyz"


def is_whole(thing):
    """Whether it is a plain integer (True and False are none)."""
    return isinstance(thing, int) and thing.__class__.__name__ == "int"


def is_word(thing):
    """Whether it is a plain string."""
    return isinstance(thing, str) and thing.__class__.__name__ == "str"


def is_label(thing):
    """Whether it is a LABEL."""
    if not is_word(thing) or len(thing) == 0 or len(thing) > MOST_LETTERS:
        return False
    return all([letter in LETTERS for letter in thing])


def is_row(thing):
    """Whether it is a plain tuple."""
    return isinstance(thing, tuple) and thing.__class__.__name__ == "tuple"


def is_row_of(thing, many):
    """Whether it is a plain tuple of so many things."""
    return is_row(thing) and len(thing) == many


def is_whole_within(thing, least, most):
    """Whether it is a plain integer from least to most."""
    return is_whole(thing) and least <= thing and thing <= most


def is_number(thing):
    """Whether it is a NUMBER."""
    return is_whole_within(thing, -100, 100)


def is_fraction(thing):
    """Whether it is a FRACTION."""
    if not is_row_of(thing, 2) or not is_whole(thing[0]) or not is_whole(thing[1]):
        return False
    return thing[1] >= 1 and gcd(thing[0], thing[1]) == 1


def is_fraction_row(thing, many):
    """Whether it is a plain tuple of so many FRACTIONS."""
    return is_row_of(thing, many) and all([is_fraction(item) for item in thing])


def is_amount_row(thing, many):
    """Whether it is a plain tuple of so many FRACTIONS from nought on."""
    return is_fraction_row(thing, many) and all([top >= 0 for top, _ in thing])


def is_weight(thing):
    """Whether it is a WEIGHT."""
    return is_fraction(thing) and thing[0] > 0


def ascends(things):
    """Whether each is greater than the one ahead; they can be compared."""
    return all([low < high for low, high in zip(things, things[1:])])


def is_share_pair(thing):
    """Whether it is a pair of a NUMBER and a WEIGHT."""
    return is_row_of(thing, 2) and is_number(thing[0]) and is_weight(thing[1])


def is_share(thing):
    """Whether it is a SHARE."""
    if not is_row(thing) or len(thing) > MOST_PAIRS:
        return False
    if not all([is_share_pair(pair) for pair in thing]):
        return False
    return ascends([number for number, _ in thing])


def has_sort(paper, sorts):
    """Whether a paper is a tuple whose word and length are one of sorts."""
    if not is_row(paper) or len(paper) == 0 or not is_word(paper[0]):
        return False
    return (paper[0], len(paper)) in sorts
