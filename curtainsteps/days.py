"""Several days: the paths through them, and fair shares of these."""

from curtainsteps.errors import BadDays
from curtainsteps.exact import NOUGHT, lowered, multiplied
from curtainsteps.paths import all_beginnings, all_paths, is_days, is_fair_share


def need_days(thing):
    """The thing itself; BadDays of what are none."""
    if not is_days(thing):
        raise BadDays(thing)
    return thing


def paths_of(days):
    """The tuple of all PATHS."""
    return tuple(all_paths(need_days(days)))


def beginnings(days):
    """The tuple of all BEGINNINGS."""
    return tuple(all_beginnings(need_days(days)))


def open_numbers(days):
    """The tuple of the open NUMBERS of each day."""
    need_days(days)
    found = [days[-1]]
    for day in days[:-1][::-1]:
        behind = found[-1]
        # Some is no greater and some no less: the least and the greatest tell.
        found.append(tuple([number for number in day if behind and behind[0] <= number and number <= behind[-1]]))
    return tuple(found[::-1])


def is_fair(days, value):
    """Whether any value is a FAIR SHARE."""
    return is_fair_share(need_days(days), value)


def part_of_step(number, reached, behind):
    """What goes to one of the NUMBERS behind, if all goes to those next to a number on both sides."""
    low = max([item for item in behind if item <= number])
    high = min([item for item in behind if item >= number])
    if reached == low == high:
        return (1, 1)
    if reached == low:
        return lowered(high - number, high - low)
    if reached == high:
        return lowered(number - low, high - low)
    return NOUGHT


def part_of_path(path, opened):
    """What goes along a PATH from the first open NUMBER, if each step goes to the open NUMBERS next to it."""
    if path[0] != opened[0][0]:
        return NOUGHT
    part = (1, 1)
    for at, number in enumerate(path[:-1]):
        if part == NOUGHT:
            break
        part = multiplied(part, part_of_step(number, path[at + 1], opened[at + 1]))
    return part


def fair_share(days):
    """A FAIR SHARE, or None."""
    opened = open_numbers(days)
    if opened[0] == ():
        return None
    return tuple([part_of_path(path, opened) for path in all_paths(days)])
