"""What a TABLE is, where it starts and where it ends."""

from curtainsteps.amounts import gathered
from curtainsteps.exact import scaled
from curtainsteps.forms import MOST_PAIRS, ascends, is_number, is_row, is_row_of, is_weight

MOST_STEPS = 64


def is_step(thing):
    """Whether it is a triple of two NUMBERS and a WEIGHT."""
    return is_row_of(thing, 3) and is_number(thing[0]) and is_number(thing[1]) and is_weight(thing[2])


def is_fair(steps):
    """Whether from each number the mean of where the steps lead is that number."""
    return gathered([(x, scaled(weight, y - x)) for x, y, weight in steps]) == ()


def is_table(thing):
    """Whether it is a TABLE."""
    if not is_row(thing) or len(thing) > MOST_STEPS:
        return False
    if not all([is_step(step) for step in thing]):
        return False
    if not ascends([(x, y) for x, y, _ in thing]):
        return False
    if len({x for x, _, _ in thing}) > MOST_PAIRS or len({y for _, y, _ in thing}) > MOST_PAIRS:
        return False
    return is_fair(thing)


def start_share(table):
    """The START of what is a TABLE."""
    return gathered([(x, weight) for x, _, weight in table])


def end_share(table):
    """The END of what is a TABLE."""
    return gathered([(y, weight) for _, y, weight in table])


def leads(table, one, other):
    """Whether what is a TABLE has one as START and other as END."""
    return start_share(table) == one and end_share(table) == other
