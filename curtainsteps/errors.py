"""All errors of the package.

Each one keeps what it was made with under the names of its arguments; these may be anything.
"""


class StepError(ValueError):
    """What is refused."""


class BadPaper(StepError):
    """A paper does not hold; part says where."""

    def __init__(self, part):
        self.part = part


class BadBook(StepError):
    """Something is no book; part says where."""

    def __init__(self, part):
        self.part = part


class BadFraction(StepError):
    """Something is no fraction."""

    def __init__(self, given):
        self.given = given


class BadShare(StepError):
    """Something is no share."""

    def __init__(self, given):
        self.given = given


class BadNumber(StepError):
    """Something is no number."""

    def __init__(self, given):
        self.given = given


class BadWeight(StepError):
    """Something is no weight."""

    def __init__(self, given):
        self.given = given


class BadOrder(StepError):
    """Something is no order of a share."""

    def __init__(self, given):
        self.given = given


class BadTable(StepError):
    """Something is no table."""

    def __init__(self, given):
        self.given = given


class BadCrossing(StepError):
    """Something is no crossing of a table."""

    def __init__(self, given):
        self.given = given


class BadCosts(StepError):
    """Something is no costs of two shares."""

    def __init__(self, given):
        self.given = given


class BadDays(StepError):
    """Something is no days."""

    def __init__(self, given):
        self.given = given


class BadClaim(StepError):
    """Something is no claim."""

    def __init__(self, given):
        self.given = given


class BadFair(StepError):
    """Something is no fair share of days."""

    def __init__(self, given):
        self.given = given


class BadHedge(StepError):
    """Something is no hedge for a book."""

    def __init__(self, given):
        self.given = given


class BadLabel(StepError):
    """Something is no label, or a label that is taken."""

    def __init__(self, given):
        self.given = given


class BadQuote(StepError):
    """Something makes no quote."""

    def __init__(self, given):
        self.given = given


class NotWider(StepError):
    """A share is not wider than another one; paper proves it."""

    def __init__(self, paper):
        self.paper = paper


class SureGain(StepError):
    """No fair share keeps a book; paper proves it."""

    def __init__(self, paper):
        self.paper = paper


class BadTerm(StepError):
    """Something is no term; path leads to the place."""

    def __init__(self, path):
        self.path = path


class BadMix(StepError):
    """Something is no mix; path leads to the place."""

    def __init__(self, path):
        self.path = path


class BadText(StepError):
    """A text cannot be read; line and word say where."""

    def __init__(self, line, word):
        self.line = line
        self.word = word


class TooMany(OverflowError):
    """There would be more than most."""

    def __init__(self, most):
        self.most = most


class NothingLeft(RuntimeError):
    """There are not so many deeds to be taken back."""

    def __init__(self, many):
        self.many = many


class Missing(KeyError):
    """Nothing stands under this label."""

    def __init__(self, given):
        self.given = given
