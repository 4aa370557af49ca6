"""What DAYS are, their PATHS and BEGINNINGS, unchecked where a thing is DAYS already."""

from curtainsteps.amounts import gathered
from curtainsteps.exact import scaled, sum_of
from curtainsteps.forms import (
    MOST_PAIRS, ascends, is_amount_row, is_number, is_row, is_row_of, is_whole_within,
)

MOST_DAYS = 4
MOST_PATHS = 32
MOST_CLAIMED = 10000


def is_day(thing):
    """Whether it is an ascending tuple of 1 to 8 NUMBERS."""
    if not is_row(thing) or len(thing) == 0 or len(thing) > MOST_PAIRS:
        return False
    return all([is_number(item) for item in thing]) and ascends(thing)


def count_paths(days):
    """How many PATHS there are."""
    many = 1
    for day in days:
        many *= len(day)
    return many


def is_days(thing):
    """Whether it is DAYS."""
    if not is_row(thing) or len(thing) == 0 or len(thing) > MOST_DAYS:
        return False
    return all([is_day(item) for item in thing]) and count_paths(thing) <= MOST_PATHS


def all_paths(days):
    """The ascending list of all PATHS."""
    paths = [()]
    for day in days:
        paths = [(*path, number) for path in paths for number in day]
    return paths


def begun_by(path):
    """The list of the BEGINNINGS of a PATH."""
    return [path[:many] for many in range(1, len(path))]


def gains_of(path):
    """What the next NUMBER is more than the last one, of each BEGINNING of a PATH."""
    return [high - low for low, high in zip(path, path[1:])]


def all_beginnings(days):
    """The ascending list of all BEGINNINGS."""
    return sorted({beginning for path in all_paths(days) for beginning in begun_by(path)})


def is_fair_share(days, thing):
    """Whether it is a FAIR SHARE."""
    paths = all_paths(days)
    if not is_amount_row(thing, len(paths)) or sum_of(thing) != (1, 1):
        return False
    gains = [
        (beginning, scaled(fraction, gain))
        for path, fraction in zip(paths, thing)
        for beginning, gain in zip(begun_by(path), gains_of(path))
    ]
    return gathered(gains) == ()


def is_whole_claimed(thing):
    """Whether it is an integer that a CLAIM or a QUOTE may have."""
    return is_whole_within(thing, -MOST_CLAIMED, MOST_CLAIMED)


def is_claim(days, thing):
    """Whether it is a CLAIM."""
    return is_row_of(thing, count_paths(days)) and all([is_whole_claimed(item) for item in thing])
