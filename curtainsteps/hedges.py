"""Books and hedges, unchecked: what they are, what a hedge pays and costs, and the best one for a claim."""

from curtainsteps.exact import NOUGHT, added, is_below, lessened, scaled, sum_of
from curtainsteps.forms import is_amount_row, is_fraction, is_fraction_row, is_row, is_row_of
from curtainsteps.paths import (
    all_beginnings, all_paths, begun_by, count_paths, gains_of, is_claim, is_whole_claimed,
)
from curtainsteps.simplex import solved

MOST_QUOTES = 6
# The two sides of a QUOTE; also what lies between a MEAN and the bound, so taken, makes the bound.
ASKED = 1
BID = -1


def are_bid_and_ask(bid, ask):
    """Whether both are integers or None, in order."""
    if bid is not None and not is_whole_claimed(bid):
        return False
    if ask is not None and not is_whole_claimed(ask):
        return False
    return bid is None or ask is None or bid <= ask


def is_quote(days, thing):
    """Whether it is a QUOTE."""
    return is_row_of(thing, 3) and is_claim(days, thing[0]) and are_bid_and_ask(thing[1], thing[2])


def fault_of_book(days, thing):
    """What is wrong in a BOOK: "form", or the number of the first thing that is no QUOTE; None of a BOOK."""
    if not is_row(thing) or len(thing) > MOST_QUOTES:
        return "form"
    faults = [at for at, item in enumerate(thing) if not is_quote(days, item)]
    return faults[0] if faults else None


def mean_by(fair, claim):
    """The MEAN of a CLAIM."""
    return sum_of([scaled(fraction, item) for fraction, item in zip(fair, claim)])


def keeps(fair, book):
    """Whether a FAIR SHARE keeps a BOOK."""
    for claim, bid, ask in book:
        mean = mean_by(fair, claim)
        if bid is not None and is_below(mean, (bid, 1)):
            return False
        if ask is not None and is_below((ask, 1), mean):
            return False
    return True


def is_hedge_for(days, book, thing):
    """Whether it is a HEDGE for a BOOK."""
    if not is_row_of(thing, 4) or not is_fraction(thing[0]):
        return False
    _, buys, sells, dealing = thing
    if not is_amount_row(buys, len(book)) or not is_amount_row(sells, len(book)):
        return False
    for (_, bid, ask), bought, sold in zip(book, buys, sells):
        if (ask is None and bought != NOUGHT) or (bid is None and sold != NOUGHT):
            return False
    return is_fraction_row(dealing, len(all_beginnings(days)))


def payments(days, book, hedge):
    """The tuple of what a HEDGE pays on each PATH."""
    cash, buys, sells, dealing = hedge
    dealt = dict(zip(all_beginnings(days), dealing))
    held = [(claim, lessened(bought, sold)) for (claim, _, _), bought, sold in zip(book, buys, sells)]
    paid = []
    for at, path in enumerate(all_paths(days)):
        claimed = [scaled(many, claim[at]) for claim, many in held]
        gained = [scaled(dealt[beginning], gain) for beginning, gain in zip(begun_by(path), gains_of(path))]
        paid.append(sum_of([cash, *claimed, *gained]))
    return tuple(paid)


def expense(book, hedge):
    """What a HEDGE costs."""
    cash, buys, sells, _ = hedge
    whole = cash
    for (_, bid, ask), bought, sold in zip(book, buys, sells):
        if ask is not None:
            whole = added(whole, scaled(bought, ask))
        if bid is not None:
            whole = lessened(whole, scaled(sold, bid))
    return whole


def covers(paid, claim):
    """Whether what is paid is on each PATH no less than the integer of a CLAIM."""
    return not any([is_below(fraction, (item, 1)) for fraction, item in zip(paid, claim)])


def sides_of(book):
    """All bounds of a BOOK: the number of the QUOTE, its side, its CLAIM and the bound."""
    asks = [(at, ASKED, claim, ask) for at, (claim, _, ask) in enumerate(book) if ask is not None]
    bids = [(at, BID, claim, bid) for at, (claim, bid, _) in enumerate(book) if bid is not None]
    return asks + bids


def equations(days, book):
    """Rows and sums: PATHS are together 1, each BEGINNING gains nothing, each MEAN keeps its bounds.

    Columns are the PATHS, and what lies between each MEAN and its bound.
    """
    paths = all_paths(days)
    gains = [dict(zip(begun_by(path), gains_of(path))) for path in paths]
    sides = sides_of(book)
    rows = [[1] * len(paths)] + [[gain.get(beginning, 0) for gain in gains] for beginning in all_beginnings(days)]
    rows = [row + [0] * len(sides) for row in rows]
    for place, (_, side, claim, _) in enumerate(sides):
        rows.append([*claim] + [side if place == column else 0 for column in range(len(sides))])
    sums = [(1, 1)] + [NOUGHT] * len(all_beginnings(days)) + [(bound, 1) for _, _, _, bound in sides]
    return rows, sums


def hedge_of(days, book, amounts):
    """The HEDGE by an amount of each row of the equations."""
    many = 1 + len(all_beginnings(days))
    buys = [NOUGHT] * len(book)
    sells = [NOUGHT] * len(book)
    for (at, side, _, _), amount in zip(sides_of(book), amounts[many:]):
        if side == ASKED:
            buys[at] = amount
        else:
            sells[at] = scaled(amount, -1)
    return (amounts[0], tuple(buys), tuple(sells), tuple(amounts[1:many]))


def best_for(days, book, claim):
    """A FAIR SHARE that keeps a BOOK with the greatest MEAN of a CLAIM, and a HEDGE that pays no less at this cost.

    If there is none, None and a SURE GAIN.
    """
    rows, sums = equations(days, book)
    prices = [-item for item in claim] + [0] * len(sides_of(book))
    values, worths = solved(rows, sums, prices)
    hedge = hedge_of(days, book, [scaled(worth, -1) for worth in worths])
    return (None if values is None else tuple(values[:count_paths(days)])), hedge
