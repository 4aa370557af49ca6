"""Shares by words: mixes, and the share of each."""

from curtainsteps.amounts import gathered, moment_of, total_of
from curtainsteps.errors import BadMix
from curtainsteps.exact import NOUGHT, divided, lowered, multiplied, scaled
from curtainsteps.forms import is_share
from curtainsteps.words import MIX_SHAPES, fault_in, kid_places


def moved(share, by):
    """All numbers greater by an integer."""
    return tuple([(number + by, weight) for number, weight in share])


def multiplied_all(share, fraction):
    """All weights times a fraction."""
    return tuple([(number, multiplied(weight, fraction)) for number, weight in share])


def spread(share, number, low, high):
    """What is at a number goes to a lower and a higher one."""
    weight = dict(share).get(number, NOUGHT)
    to_low = multiplied(weight, lowered(high - number, high - low))
    to_high = multiplied(weight, lowered(number - low, high - low))
    return gathered([*share, (number, scaled(weight, -1)), (low, to_low), (high, to_high)])


def drawn(share, low, high):
    """All from a number to another one goes to one; None if this would be no integer."""
    inner = [(number, weight) for number, weight in share if low <= number and number <= high]
    if inner == []:
        return share
    whole = total_of(inner)
    mean, parts = divided(moment_of(inner), whole)
    if parts != 1:
        return None
    outer = [(number, weight) for number, weight in share if number < low or number > high]
    return gathered([*outer, (mean, whole)])


def made(mix, kids):
    """What a MIX makes of the SHARES of those in it; it may be none."""
    word = mix[0]
    if word == "point":
        return ((mix[1], lowered(mix[2], mix[3])),)
    if word == "none":
        return ()
    if word == "mixed":
        return gathered(kids[0] + kids[1])
    if word == "moved":
        return moved(kids[0], mix[2])
    if word == "scaled":
        return multiplied_all(kids[0], lowered(mix[2], mix[3]))
    if word == "spread":
        return spread(kids[0], mix[2], mix[3], mix[4])
    return drawn(kids[0], mix[2], mix[3])


def share_at(mix, path):
    """The SHARE of a MIX; BadMix of the first one without, those in it ahead of itself."""
    kids = [share_at(mix[at], (*path, at)) for at in kid_places(MIX_SHAPES[mix[0]])]
    share = made(mix, kids)
    if not is_share(share):
        raise BadMix(path)
    return share


def share_of(mix):
    """The SHARE of a MIX."""
    fault = fault_in(mix, dict(MIX_SHAPES))
    if fault is not None:
        raise BadMix(fault)
    return share_at(mix, ())


def need_mix(thing):
    """The thing itself; BadMix of what is no MIX."""
    # What has no SHARE is none.
    share_of(thing)
    return thing


def parts_of(mix):
    """The tuple of the MIXES that stand in a MIX itself."""
    need_mix(mix)
    return tuple([mix[at] for at in kid_places(MIX_SHAPES[mix[0]])])
