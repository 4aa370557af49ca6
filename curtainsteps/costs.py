"""Costs of two shares, and what a table costs by them."""

from curtainsteps.errors import BadCosts, BadTable
from curtainsteps.exact import scaled, sum_of
from curtainsteps.forms import is_row_of, is_whole_within
from curtainsteps.shares import need_share
from curtainsteps.steps import is_table, leads


def is_cost_row(thing, many):
    """Whether it is a tuple of so many integers that COSTS may have."""
    return is_row_of(thing, many) and all([is_whole_within(item, -1000, 1000) for item in thing])


def need_costs(one, other, thing):
    """The thing itself; BadCosts of what are no COSTS of two SHARES."""
    need_share(one)
    need_share(other)
    if not is_row_of(thing, len(one)) or not all([is_cost_row(row, len(other)) for row in thing]):
        raise BadCosts(thing)
    return thing


def places(share):
    """The number of the pair for each number of a SHARE."""
    return {number: place for place, (number, _) in enumerate(share)}


def cost_of(one, other, costs, table):
    """The COST of a TABLE from one to other."""
    need_costs(one, other, costs)
    if not is_table(table) or not leads(table, one, other):
        raise BadTable(table)
    rows = places(one)
    columns = places(other)
    return sum_of([scaled(weight, costs[rows[x]][columns[y]]) for x, y, weight in table])
