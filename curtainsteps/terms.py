"""Papers by words: terms, and what they pay on each path."""

from curtainsteps.days import need_days
from curtainsteps.errors import BadTerm
from curtainsteps.paths import all_paths, is_claim
from curtainsteps.words import DAY, TERM_SHAPES, fault_in, kid_places


def need_term(thing):
    """The thing itself; BadTerm of what is no TERM."""
    fault = fault_in(thing, dict(TERM_SHAPES))
    if fault is not None:
        raise BadTerm(fault)
    return thing


def kids_of(term):
    """The tuple of the TERMS that stand in a TERM itself."""
    need_term(term)
    return tuple([term[at] for at in kid_places(TERM_SHAPES[term[0]])])


def leaf_pays(term, way):
    """What a TERM without others in it pays on a PATH."""
    word = term[0]
    if word == "cash":
        return term[1]
    number = way[term[1]]
    if word == "at":
        return number
    if word == "above":
        return max(0, number - term[2])
    if word == "below":
        return max(0, term[2] - number)
    seen = way[:term[1] + 1]
    return min(seen) if word == "lowest" else max(seen)


def term_pays(term, way, paid):
    """What a TERM pays on a PATH, by what the TERMS in it pay there."""
    word = term[0]
    if word == "both":
        return paid[0] + paid[1]
    if word == "short":
        return -paid[0]
    if word == "times":
        return paid[0] * term[2]
    if word == "lesser":
        return min(paid[0], paid[1])
    if word == "greater":
        return max(paid[0], paid[1])
    if word == "if":
        return paid[0] if way[term[1]] > term[2] else paid[1]
    return leaf_pays(term, way)


def claim_at(days, term, path):
    """The CLAIM of a TERM; BadTerm of the first one without, those in it ahead of itself."""
    shape = TERM_SHAPES[term[0]]
    kids = [claim_at(days, term[at], (*path, at)) for at in kid_places(shape)]
    # The number of a day always stands first.
    if DAY in shape and term[1] >= len(days):
        raise BadTerm(path)
    ways = all_paths(days)
    claim = tuple([term_pays(term, way, [kid[at] for kid in kids]) for at, way in enumerate(ways)])
    if not is_claim(days, claim):
        raise BadTerm(path)
    return claim


def claim_of(days, term):
    """The CLAIM of a TERM."""
    need_days(days)
    return claim_at(days, need_term(term), ())
