"""Arguments that many files want: given back if they are right, refused if not."""

from curtainsteps.errors import BadLabel, BadNumber, BadWeight
from curtainsteps.forms import is_label, is_number, is_weight


def need_number(thing):
    """The thing itself; BadNumber of what is no NUMBER."""
    if not is_number(thing):
        raise BadNumber(thing)
    return thing


def need_weight(thing):
    """The thing itself; BadWeight of what is no WEIGHT."""
    if not is_weight(thing):
        raise BadWeight(thing)
    return thing


def need_label(thing):
    """The thing itself; BadLabel of what is no LABEL."""
    if not is_label(thing):
        raise BadLabel(thing)
    return thing
