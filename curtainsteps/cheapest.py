"""The cheapest and the dearest table by costs, with papers that prove it."""

from curtainsteps.costs import cost_of, need_costs
from curtainsteps.errors import BadPaper
from curtainsteps.exact import added, is_below, lessened, multiplied, scaled, sum_of
from curtainsteps.flows import flow_rows, flow_sums
from curtainsteps.forms import is_fraction_row, is_row_of
from curtainsteps.simplex import solved
from curtainsteps.steps import is_table, leads
from curtainsteps.tables import left_table, need_wider

# What COSTS are multiplied by: the DEAREST is the CHEAPEST by the contrary ones.
CHEAPEST = 1
DEAREST = -1


def need_costs_of_wider(one, other, costs):
    """Raises what is due of COSTS from one to other, that is WIDER."""
    need_costs(one, other, costs)
    need_wider(one, other)


def outmost_paper(one, other, costs, way):
    """The PAPER on CHEAPEST or DEAREST; other is WIDER than one."""
    prices = [way * item for row in costs for item in row]
    weights, worths = solved(flow_rows(one, other), flow_sums(one, other), prices)
    pairs = [(x, y) for x, _ in one for y, _ in other]
    table = tuple([(x, y, weight) for (x, y), weight in zip(pairs, weights) if weight[0] != 0])
    told = tuple([scaled(worth, way) for worth in worths])
    many = len(one)
    return (table, told[:many], told[2 * many:], told[many:2 * many])


def cheapest_paper(one, other, costs):
    """A PAPER on CHEAPEST."""
    need_costs_of_wider(one, other, costs)
    return outmost_paper(one, other, costs, CHEAPEST)


def dearest_paper(one, other, costs):
    """A PAPER on DEAREST."""
    need_costs_of_wider(one, other, costs)
    return outmost_paper(one, other, costs, DEAREST)


def cheapest_cost(one, other, costs):
    """The CHEAPEST COST."""
    return cost_of(one, other, costs, cheapest_paper(one, other, costs)[0])


def dearest_cost(one, other, costs):
    """The DEAREST COST."""
    return cost_of(one, other, costs, dearest_paper(one, other, costs)[0])


def are_prices(one, other, paper):
    """Whether U, V and H of a quadruple are tuples of FRACTIONS for the pairs of one, of other, of one."""
    _, starts, ends, gains = paper
    return is_fraction_row(starts, len(one)) and is_fraction_row(ends, len(other)) and is_fraction_row(gains, len(one))


def are_bounds(one, other, costs, paper, way):
    """Whether U, V and H are together no more than COSTS anywhere; of DEAREST, no less."""
    _, starts, ends, gains = paper
    for (x, _), row, start, gain in zip(one, costs, starts, gains):
        for (y, _), item, end in zip(other, row, ends):
            together = added(added(start, end), scaled(gain, y - x))
            if is_below((way * item, 1), scaled(together, way)):
                return False
    return True


def worth_of(one, other, paper):
    """All U times the WEIGHTS of one, and all V times those of other, together."""
    _, starts, ends, _ = paper
    weights = [weight for _, weight in one + other]
    return sum_of([multiplied(price, weight) for price, weight in zip(starts + ends, weights)])


def check_outmost(one, other, costs, paper, way):
    """The COST by a paper that holds on CHEAPEST or DEAREST."""
    need_costs_of_wider(one, other, costs)
    if not is_row_of(paper, 4):
        raise BadPaper("form")
    if not is_table(paper[0]) or not leads(paper[0], one, other):
        raise BadPaper("table")
    if not are_prices(one, other, paper):
        raise BadPaper("prices")
    if not are_bounds(one, other, costs, paper, way):
        raise BadPaper("bound")
    cost = cost_of(one, other, costs, paper[0])
    if worth_of(one, other, paper) != cost:
        raise BadPaper("sum")
    return cost


def check_cheapest(one, other, costs, paper):
    """The CHEAPEST COST, by a paper that holds."""
    return check_outmost(one, other, costs, paper, CHEAPEST)


def check_dearest(one, other, costs, paper):
    """The DEAREST COST, by a paper that holds."""
    return check_outmost(one, other, costs, paper, DEAREST)


def gap(one, other, costs):
    """The GAP: what the LEFT TABLE costs more than the CHEAPEST one."""
    least = cheapest_cost(one, other, costs)
    return lessened(cost_of(one, other, costs, left_table(one, other)), least)
