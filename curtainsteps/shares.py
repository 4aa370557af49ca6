"""Shares: weights at ascending numbers, and whether one is wider than another one."""

from curtainsteps.amounts import gathered, has_lesser_rest, moment_of, refusal, rest_of, total_of
from curtainsteps.errors import BadPaper, BadShare, TooMany
from curtainsteps.exact import scaled
from curtainsteps.forms import MOST_PAIRS, has_sort, is_number, is_share
from curtainsteps.needs import need_number
from curtainsteps.steps import is_table, leads

SORTS = (("table", 2), ("total", 1), ("moment", 1), ("mark", 2))


def need_share(thing):
    """The thing itself; BadShare of what is no SHARE."""
    if not is_share(thing):
        raise BadShare(thing)
    return thing


def total(share):
    """The TOTAL."""
    return total_of(need_share(share))


def moment(share):
    """The MOMENT."""
    return moment_of(need_share(share))


def rest_above(share, number):
    """The REST above a NUMBER."""
    return rest_of(need_share(share), need_number(number))


def is_wider(one, other):
    """Whether other is WIDER than one."""
    return refusal(need_share(one), need_share(other)) is None


def is_as_told(one, other, paper):
    """Whether a paper of one of SORTS is so."""
    word = paper[0]
    if word == "table":
        return is_table(paper[1]) and leads(paper[1], one, other)
    if word == "total":
        return total_of(one) != total_of(other)
    if word == "moment":
        return moment_of(one) != moment_of(other)
    return is_number(paper[1]) and has_lesser_rest(one, other, paper[1])


def check_wider(one, other, paper):
    """The first word of a paper that holds on whether other is WIDER than one."""
    need_share(one)
    need_share(other)
    if not has_sort(paper, SORTS):
        raise BadPaper("form")
    if not is_as_told(one, other, paper):
        raise BadPaper(paper[0])
    return paper[0]


def put_together(one, other):
    """The SHARE of all numbers of both with the sums of their weights."""
    both = gathered(need_share(one) + need_share(other))
    if len(both) > MOST_PAIRS:
        raise TooMany(MOST_PAIRS)
    return both


def taken_from(one, other):
    """The SHARE with which other, put together, is one."""
    need_share(one)
    taken = [(number, scaled(weight, -1)) for number, weight in need_share(other)]
    left = gathered([*one, *taken])
    # What is lacking in one is left below nought.
    if not is_share(left):
        raise BadShare(other)
    return left
