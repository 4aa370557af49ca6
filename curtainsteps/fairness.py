"""Whether some fair share keeps a book, or there is a sure gain."""

from curtainsteps.books import need_book
from curtainsteps.errors import BadPaper
from curtainsteps.exact import is_below
from curtainsteps.forms import has_sort
from curtainsteps.hedges import best_for, covers, expense, is_hedge_for, keeps, payments
from curtainsteps.paths import count_paths, is_fair_share

SORTS = (("fair", 2), ("gain", 2))


def nothing(days):
    """The CLAIM that is 0 on each PATH."""
    return (0,) * count_paths(days)


def fair_paper(days, book):
    """A PAPER on whether some FAIR SHARE keeps a BOOK."""
    need_book(days, book)
    fair, hedge = best_for(days, book, nothing(days))
    return ("gain", hedge) if fair is None else ("fair", fair)


def is_sure_gain(days, book, thing):
    """Whether it is a SURE GAIN."""
    if not is_hedge_for(days, book, thing):
        return False
    return covers(payments(days, book, thing), nothing(days)) and not is_below((-1, 1), expense(book, thing))


def keeps_fairly(days, book, thing):
    """Whether it is a FAIR SHARE that keeps a BOOK."""
    return is_fair_share(days, thing) and keeps(thing, book)


def check_fair(days, book, paper):
    """The first word of a paper that holds on whether some FAIR SHARE keeps a BOOK."""
    need_book(days, book)
    if not has_sort(paper, SORTS):
        raise BadPaper("form")
    word, thing = paper
    holds = keeps_fairly(days, book, thing) if word == "fair" else is_sure_gain(days, book, thing)
    if not holds:
        raise BadPaper(word)
    return word
