"""A book of prices that is led: quotes under labels, and deeds that can be taken back."""

from curtainsteps.books import need_claim
from curtainsteps.bounds import greatest_mean, least_mean
from curtainsteps.days import open_numbers
from curtainsteps.errors import BadDays, BadLabel, BadNumber, BadQuote, Missing, NothingLeft, TooMany
from curtainsteps.forms import is_whole, is_word
from curtainsteps.hedges import MOST_QUOTES, are_bid_and_ask
from curtainsteps.needs import need_label


def need_bid_and_ask(bid, ask):
    """BadQuote of what makes no QUOTE."""
    if not are_bid_and_ask(bid, ask):
        raise BadQuote((bid, ask))


def book_of(stand):
    """The BOOK of pairs of a LABEL and its QUOTE."""
    return tuple([quote for _, quote in stand])


def bounds_by(days, book, claim):
    """The pair of the LEAST and the GREATEST of a CLAIM under a BOOK."""
    return (least_mean(days, book, claim), greatest_mean(days, book, claim))


class Trial:
    """For one with statement: behind its block a Pricebook is as it was when the block began."""

    def __init__(self, held):
        self.held = held
        self.stand = held.stand
        self.past = held.past

    def __enter__(self):
        self.stand = self.held.stand
        self.past = self.held.past
        return self.held

    def __exit__(self, kind, value, trace):
        self.held.stand = self.stand
        self.held.past = self.past


class Pricebook:
    """QUOTES under LABELS, such that some FAIR SHARE keeps them at any time.

    What stands now, and what stood ahead of each deed, are tuples of pairs of a LABEL and its QUOTE, ascending by
    LABELS. They are replaced, never changed: copies and trials may share them.
    """

    def __init__(self, days):
        if open_numbers(days)[0] == ():
            raise BadDays(days)
        self.dates = days
        self.stand = ()
        self.past = ()

    @property
    def days(self):
        """The DAYS."""
        return self.dates

    @property
    def book(self):
        """The BOOK."""
        return book_of(self.stand)

    def labels(self):
        """The ascending tuple of its LABELS."""
        return tuple([label for label, _ in self.stand])

    def lead_on(self, quotes, claim):
        """Goes on with these QUOTES; the LEAST and the GREATEST of a CLAIM by them."""
        stand = tuple([(label, quotes[label]) for label in sorted(quotes)])
        # A BOOK that no FAIR SHARE keeps is refused here, while nothing has changed yet.
        bounds = bounds_by(self.dates, book_of(stand), claim)
        self.past = (*self.past, self.stand)
        self.stand = stand
        return bounds

    def put(self, label, claim, bid, ask):
        """A QUOTE under a new LABEL; the LEAST and the GREATEST of the CLAIM behind it."""
        quotes = dict(self.stand)
        if need_label(label) in quotes:
            raise BadLabel(label)
        need_claim(self.dates, claim)
        need_bid_and_ask(bid, ask)
        if len(quotes) == MOST_QUOTES:
            raise TooMany(MOST_QUOTES)
        quotes[label] = (claim, bid, ask)
        return self.lead_on(quotes, claim)

    def change(self, label, bid, ask):
        """Another BID and ASK; the LEAST and the GREATEST of the CLAIM behind it."""
        claim = self.quote(label)[0]
        need_bid_and_ask(bid, ask)
        quotes = dict(self.stand)
        quotes[label] = (claim, bid, ask)
        return self.lead_on(quotes, claim)

    def take(self, label):
        """Takes a QUOTE away; the LEAST and the GREATEST of the CLAIM behind it."""
        claim = self.quote(label)[0]
        quotes = dict(self.stand)
        del quotes[label]
        return self.lead_on(quotes, claim)

    def bounds_of(self, claim):
        """The pair of the LEAST and the GREATEST of a CLAIM now."""
        return bounds_by(self.dates, self.book, claim)

    def quote(self, label):
        """The QUOTE under a LABEL."""
        quotes = dict(self.stand)
        if not is_word(label) or label not in quotes:
            raise Missing(label)
        return quotes[label]

    def undo(self, many=1):
        """Takes so many deeds back, the last one first."""
        if not is_whole(many) or many < 1:
            raise BadNumber(many)
        if many > len(self.past):
            raise NothingLeft(many)
        self.stand = self.past[-many]
        self.past = self.past[:-many]

    def copy(self):
        """A Pricebook that stands likewise, with all that can be taken back, and goes on by itself."""
        other = Pricebook(self.dates)
        other.stand = self.stand
        other.past = self.past
        return other

    def trial(self):
        """For one with statement, which gives the Pricebook itself, and takes back what its block does."""
        return Trial(self)

    def __len__(self):
        return len(self.past)

    def __eq__(self, other):
        return isinstance(other, Pricebook) and self.dates == other.dates and self.stand == other.stand


def under(manager, deed):
    """What a deed returns, called in a with statement over a manager, with what this gives.

    None if an error that it raised went no further.
    """
    with manager as one:
        return deed(one)
    return None
