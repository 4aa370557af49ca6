"""Kinds of costs: where their rises bend up, where down."""

from curtainsteps.costs import need_costs
from curtainsteps.errors import BadPaper
from curtainsteps.forms import has_sort, is_whole

SORTS = (("down", 1), ("up", 1), ("straight", 1), ("mixed", 5))
UP = 1
DOWN = -1


def bow(other, rises, column):
    """Above 0 if the RISES of a row bend up at a column, below 0 if down."""
    first, second, third = [number for number, _ in other[column:column + 3]]
    ahead = (rises[column + 1] - rises[column]) * (third - second)
    behind = (rises[column + 2] - rises[column + 1]) * (second - first)
    return behind - ahead


def bends(other, costs, way):
    """The ascending tuple of all places at which COSTS bend one way, UP or DOWN."""
    found = []
    for row in range(len(costs) - 1):
        rises = [high - low for low, high in zip(costs[row], costs[row + 1])]
        found.extend([(row, column) for column in range(len(other) - 2) if bow(other, rises, column) * way > 0])
    return tuple(found)


def bends_up(one, other, costs):
    """The ascending tuple of all (I, J) at which COSTS bend up."""
    return bends(other, need_costs(one, other, costs), UP)


def bends_down(one, other, costs):
    """The ascending tuple of all (I, J) at which COSTS bend down."""
    return bends(other, need_costs(one, other, costs), DOWN)


def kind_paper(one, other, costs):
    """A PAPER on the kind of COSTS."""
    ups = bends_up(one, other, costs)
    downs = bends(other, costs, DOWN)
    if ups and downs:
        return ("mixed", *ups[0], *downs[0])
    if ups:
        return ("up",)
    return ("down",) if downs else ("straight",)


def kind_of(one, other, costs):
    """The kind of COSTS: "straight", "down" or "up", or None."""
    word = kind_paper(one, other, costs)[0]
    return None if word == "mixed" else word


def is_as_told(other, costs, paper):
    """Whether a paper of one of SORTS is so."""
    ups = bends(other, costs, UP)
    downs = bends(other, costs, DOWN)
    if paper[0] == "mixed":
        return all([is_whole(item) for item in paper[1:]]) and paper[1:3] in ups and paper[3:] in downs
    if paper[0] == "down":
        return ups == ()
    if paper[0] == "up":
        return downs == ()
    return ups == () and downs == ()


def check_kind(one, other, costs, paper):
    """The first word of a paper that holds on the kind of COSTS."""
    need_costs(one, other, costs)
    if not has_sort(paper, SORTS):
        raise BadPaper("form")
    if not is_as_told(other, costs, paper):
        raise BadPaper(paper[0])
    return paper[0]
