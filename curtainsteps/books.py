"""Claims, books of quotes, and hedges for them."""

from curtainsteps.days import need_days
from curtainsteps.errors import BadBook, BadClaim, BadFair, BadHedge
from curtainsteps.hedges import expense, fault_of_book, is_hedge_for, keeps, mean_by, payments
from curtainsteps.paths import is_claim, is_fair_share


def need_fair(days, thing):
    """The thing itself; BadFair of what is no FAIR SHARE."""
    if not is_fair_share(days, thing):
        raise BadFair(thing)
    return thing


def need_claim(days, thing):
    """The thing itself; BadClaim of what is no CLAIM."""
    if not is_claim(days, thing):
        raise BadClaim(thing)
    return thing


def need_book(days, thing):
    """The thing itself; BadBook of what is no BOOK."""
    fault = fault_of_book(need_days(days), thing)
    if fault is not None:
        raise BadBook(fault)
    return thing


def mean_of(days, fair, claim):
    """The MEAN of a CLAIM by a FAIR SHARE."""
    need_days(days)
    need_fair(days, fair)
    return mean_by(fair, need_claim(days, claim))


def does_keep(days, fair, book):
    """Whether a FAIR SHARE keeps a BOOK."""
    need_days(days)
    need_fair(days, fair)
    return keeps(fair, need_book(days, book))


def is_hedge(days, book, value):
    """Whether any value is a HEDGE for a BOOK."""
    return is_hedge_for(days, need_book(days, book), value)


def need_hedge(days, book, thing):
    """The thing itself; BadHedge of what is no HEDGE for a BOOK."""
    if not is_hedge(days, book, thing):
        raise BadHedge(thing)
    return thing


def pays(days, book, hedge):
    """The tuple of what a HEDGE pays on each PATH."""
    return payments(days, book, need_hedge(days, book, hedge))


def costs(days, book, hedge):
    """What a HEDGE costs."""
    return expense(book, need_hedge(days, book, hedge))
