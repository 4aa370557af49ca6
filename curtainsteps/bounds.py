"""The greatest and the least mean of a claim under a book, with hedges that prove them."""

from curtainsteps.books import need_book, need_claim
from curtainsteps.errors import BadPaper, SureGain
from curtainsteps.exact import scaled
from curtainsteps.fairness import keeps_fairly
from curtainsteps.forms import is_row_of
from curtainsteps.hedges import best_for, covers, expense, is_hedge_for, mean_by, payments

# What a CLAIM is multiplied by: its LEAST is the contrary of the GREATEST of its contrary.
GREATEST = 1
LEAST = -1


def turned(claim, way):
    """A CLAIM, or its contrary."""
    return tuple([way * item for item in claim])


def outmost_paper(days, book, claim, way):
    """The PAPER on the GREATEST or the LEAST; SureGain of a BOOK that no FAIR SHARE keeps."""
    need_book(days, book)
    need_claim(days, claim)
    fair, hedge = best_for(days, book, turned(claim, way))
    if fair is None:
        raise SureGain(("gain", hedge))
    return (fair, hedge)


def greatest_paper(days, book, claim):
    """A PAPER on the GREATEST."""
    return outmost_paper(days, book, claim, GREATEST)


def least_paper(days, book, claim):
    """A PAPER on the LEAST."""
    return outmost_paper(days, book, claim, LEAST)


def greatest_mean(days, book, claim):
    """The GREATEST of a CLAIM under a BOOK."""
    return mean_by(greatest_paper(days, book, claim)[0], claim)


def least_mean(days, book, claim):
    """The LEAST of a CLAIM under a BOOK."""
    return mean_by(least_paper(days, book, claim)[0], claim)


def is_told(days, book, claim):
    """Whether a BOOK tells a CLAIM: its LEAST and its GREATEST are one."""
    return least_mean(days, book, claim) == greatest_mean(days, book, claim)


def check_outmost(days, book, claim, paper, way):
    """The MEAN by a paper that holds on the GREATEST or the LEAST."""
    # For its errors: a paper on a BOOK that no FAIR SHARE keeps is not looked at.
    outmost_paper(days, book, claim, way)
    if not is_row_of(paper, 2):
        raise BadPaper("form")
    fair, hedge = paper
    if not keeps_fairly(days, book, fair):
        raise BadPaper("fair")
    if not is_hedge_for(days, book, hedge) or not covers(payments(days, book, hedge), turned(claim, way)):
        raise BadPaper("hedge")
    mean = mean_by(fair, claim)
    if expense(book, hedge) != scaled(mean, way):
        raise BadPaper("cost")
    return mean


def check_greatest(days, book, claim, paper):
    """The GREATEST, by a paper that holds."""
    return check_outmost(days, book, claim, paper, GREATEST)


def check_least(days, book, claim, paper):
    """The LEAST, by a paper that holds."""
    return check_outmost(days, book, claim, paper, LEAST)
