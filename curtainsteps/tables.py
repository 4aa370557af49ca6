"""Tables of fair steps from one share to a wider one."""

from curtainsteps.amounts import refusal
from curtainsteps.errors import BadOrder, BadTable, NotWider
from curtainsteps.forms import is_row_of, is_whole
from curtainsteps.shares import need_share, taken_from
from curtainsteps.steps import end_share, is_table, start_share
from curtainsteps.windows import window


def need_table(thing):
    """The thing itself; BadTable of what is no TABLE."""
    if not is_table(thing):
        raise BadTable(thing)
    return thing


def start_of(table):
    """The START."""
    return start_share(need_table(table))


def end_of(table):
    """The END."""
    return end_share(need_table(table))


def is_order(share, thing):
    """Whether it is an ORDER of a SHARE."""
    if not is_row_of(thing, len(share)) or not all([is_whole(item) for item in thing]):
        return False
    return sorted(thing) == list(range(len(share)))


def need_wider(one, other):
    """Raises NotWider if other is not WIDER than one; both are SHARES."""
    paper = refusal(one, other)
    if paper is not None:
        raise NotWider(paper)


def built(one, other, order):
    """The TABLE in which pairs of one go to WINDOWS of what is left of other, in that order.

    None if a WINDOW is lacking; this is never so if other is WIDER than one.
    """
    steps = []
    left = other
    for place in order:
        x, weight = one[place]
        target = window(left, x, weight)
        if target is None:
            return None
        steps.extend([(x, y, part) for y, part in target])
        left = taken_from(left, target)
    return tuple(sorted(steps))


def built_from_left(one, other):
    """The one by the ascending ORDER."""
    return built(one, other, list(range(len(one))))


def table_by(one, other, order):
    """The TABLE BY an ORDER of one, from one to other."""
    need_share(one)
    need_share(other)
    if not is_order(one, order):
        raise BadOrder(order)
    need_wider(one, other)
    return built(one, other, order)


def left_table(one, other):
    """The LEFT TABLE from one to other."""
    need_wider(need_share(one), need_share(other))
    return built_from_left(one, other)


def right_table(one, other):
    """The RIGHT TABLE from one to other."""
    need_wider(need_share(one), need_share(other))
    return built(one, other, list(reversed(range(len(one)))))


def wider_paper(one, other):
    """A PAPER on whether other is WIDER than one."""
    need_share(one)
    paper = refusal(one, need_share(other))
    return ("table", left_table(one, other)) if paper is None else paper
