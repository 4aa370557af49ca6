"""Sums over shares, unchecked: the caller passes what are shares already."""

from curtainsteps.exact import NOUGHT, added, is_below, scaled, sum_of


def gathered(pairs):
    """The sums of the fractions of pairs (key, fraction), by ascending keys, without those that are nought."""
    sums = {}
    for key, fraction in pairs:
        sums[key] = added(sums.get(key, NOUGHT), fraction)
    return tuple([(key, sums[key]) for key in sorted(sums) if sums[key] != NOUGHT])


def total_of(share):
    """The TOTAL."""
    return sum_of([weight for _, weight in share])


def moment_of(share):
    """The MOMENT."""
    return sum_of([scaled(weight, number) for number, weight in share])


def rest_of(share, mark):
    """The REST above a mark."""
    return sum_of([scaled(weight, number - mark) for number, weight in share if number > mark])


def is_within(one, other):
    """Whether the first one is within the second one."""
    there = dict(other)
    return all([number in there and not is_below(there[number], weight) for number, weight in one])


def has_lesser_rest(one, other, mark):
    """Whether the second one has the lesser REST above a mark."""
    return is_below(rest_of(other, mark), rest_of(one, mark))


def refusal(one, other):
    """A paper on why the second one is not WIDER than the first one; None if it is."""
    if total_of(one) != total_of(other):
        return ("total",)
    if moment_of(one) != moment_of(other):
        return ("moment",)
    # With equal totals and moments both rests are alike beyond the outmost numbers,
    # and straight between neighbours: the numbers themselves are all the marks that count.
    for mark, _ in one + other:
        if has_lesser_rest(one, other, mark):
            return ("mark", mark)
    return None
