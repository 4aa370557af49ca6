"""From day to day: shares and tables by a fair share, and the fair share of a chain of tables."""

from curtainsteps.amounts import gathered, total_of
from curtainsteps.books import need_fair
from curtainsteps.days import need_days
from curtainsteps.errors import BadNumber, BadTable, TooMany
from curtainsteps.exact import NOUGHT, divided, multiplied
from curtainsteps.forms import is_row, is_whole_within
from curtainsteps.paths import MOST_DAYS, MOST_PATHS, all_paths, count_paths
from curtainsteps.steps import end_share, is_table, start_share


def need_day(thing, many):
    """The thing itself; BadNumber of what is not the number of one of so many."""
    if not is_whole_within(thing, 0, many - 1):
        raise BadNumber(thing)
    return thing


def share_of_day(days, fair, day):
    """The SHARE of a day by a FAIR SHARE."""
    need_fair(need_days(days), fair)
    need_day(day, len(days))
    return gathered([(path[day], fraction) for path, fraction in zip(all_paths(days), fair)])


def table_of_day(days, fair, day):
    """The TABLE of a day, that is not the last one, by a FAIR SHARE."""
    need_fair(need_days(days), fair)
    need_day(day, len(days) - 1)
    steps = gathered([(path[day:day + 2], fraction) for path, fraction in zip(all_paths(days), fair)])
    return tuple([(*step, weight) for step, weight in steps])


def is_chain(thing):
    """Whether it is a CHAIN of TABLES."""
    if not is_row(thing) or len(thing) == 0 or len(thing) >= MOST_DAYS:
        return False
    if not all([is_table(item) and item != () for item in thing]):
        return False
    return all([end_share(ahead) == start_share(behind) for ahead, behind in zip(thing, thing[1:])])


def numbers_of(share):
    """The tuple of its NUMBERS."""
    return tuple([number for number, _ in share])


def days_of(tables):
    """The DAYS of a CHAIN of TABLES."""
    if not is_chain(tables):
        raise BadTable(tables)
    found = tuple([numbers_of(share) for share in [start_share(tables[0]), *[end_share(table) for table in tables]]])
    if count_paths(found) > MOST_PATHS:
        raise TooMany(MOST_PATHS)
    return found


def parts_of_starts(table):
    """The part of each start that goes along each step, by its two numbers."""
    starts = dict(start_share(table))
    return {(x, y): divided(weight, starts[x]) for x, y, weight in table}


def chained(tables):
    """The FAIR SHARE of a CHAIN of TABLES."""
    days = days_of(tables)
    start = start_share(tables[0])
    firsts = dict(start)
    whole = total_of(start)
    rows = [parts_of_starts(table) for table in tables]
    fair = []
    for path in all_paths(days):
        part = divided(firsts[path[0]], whole)
        for at, row in enumerate(rows):
            part = multiplied(part, row.get(path[at:at + 2], NOUGHT))
        fair.append(part)
    return tuple(fair)
