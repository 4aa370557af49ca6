"""Windows: what a share has between two cuts."""

from curtainsteps.amounts import is_within, moment_of, total_of
from curtainsteps.errors import BadWeight
from curtainsteps.exact import NOUGHT, divided, is_below, lesser, lessened, scaled
from curtainsteps.forms import is_share
from curtainsteps.needs import need_number, need_weight
from curtainsteps.shares import need_share


def is_window(share, value):
    """Whether any value is a WINDOW of a SHARE."""
    need_share(share)
    if not is_share(value) or value == () or not is_within(value, share):
        return False
    low = value[0][0]
    high = value[-1][0]
    return all([pair in value for pair in share if low < pair[0] and pair[0] < high])


def fits(weight, pair):
    """Whether a fraction is above nought and no greater than the weight of a pair."""
    return is_below(NOUGHT, weight) and not is_below(pair[1], weight)


def window_between(pairs, number, weight):
    """The WINDOW that reaches from the first to the last one of neighbouring pairs, or None."""
    low, high = pairs[0], pairs[-1]
    if low[0] == high[0]:
        return ((number, weight),) if number == low[0] and fits(weight, low) else None
    inner = pairs[1:-1]
    # The two ends share what the inner pairs leave of the total and, measured from low, of the moment.
    ends = lessened(weight, total_of(inner))
    drift = lessened(scaled(weight, number), moment_of(inner))
    at_high = divided(lessened(drift, scaled(ends, low[0])), (high[0] - low[0], 1))
    at_low = lessened(ends, at_high)
    if not fits(at_low, low) or not fits(at_high, high):
        return None
    return ((low[0], at_low), *inner, (high[0], at_high))


def window(share, number, weight):
    """The WINDOW with this TOTAL and with number times it as MOMENT, or None."""
    need_share(share)
    need_number(number)
    need_weight(weight)
    for first in range(len(share)):
        for last in range(first, len(share)):
            found = window_between(share[first:last + 1], number, weight)
            if found is not None:
                return found
    return None


def need_weight_in(share, weight):
    """The weight itself; BadWeight of what is none, or is greater than the TOTAL of a SHARE."""
    need_weight(weight)
    if is_below(total_of(share), weight):
        raise BadWeight(weight)
    return weight


def taken_in_turn(pairs, weight):
    """A list of pairs with this total: of one pair after another all, of the last one what lacks."""
    taken = []
    lacking = weight
    for number, there in pairs:
        if lacking == NOUGHT:
            break
        part = lesser(there, lacking)
        taken.append((number, part))
        lacking = lessened(lacking, part)
    return taken


def lowest(share, weight):
    """The WINDOW with this TOTAL and the least MOMENT."""
    need_share(share)
    return tuple(taken_in_turn(share, need_weight_in(share, weight)))


def highest(share, weight):
    """The WINDOW with this TOTAL and the greatest MOMENT."""
    need_share(share)
    return tuple(taken_in_turn(share[::-1], need_weight_in(share, weight))[::-1])
