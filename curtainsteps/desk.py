"""A desk that leads a book of prices by lines."""

from curtainsteps.errors import Missing, StepError, TooMany
from curtainsteps.forms import is_label, is_word
from curtainsteps.pricebook import Pricebook
from curtainsteps.reading import Line, is_integer, tree_in
from curtainsteps.terms import claim_of
from curtainsteps.texts import fraction_text, read_days
from curtainsteps.words import TERM_SHAPES

WORDS = ("put", "change", "take", "bounds", "told", "labels", "undo", "deeds")
NO = "no"
LACKING = "-"


def bound_in(line):
    """The next word of a line, a BID or an ASK."""
    word = line.taken(lambda told: told == LACKING or is_integer(told))
    return None if word == LACKING else int(word)


def pair_text(pair):
    """The texts of two FRACTIONS."""
    return " ".join([fraction_text(fraction) for fraction in pair])


class Desk:
    """Leads a Pricebook of the DAYS with a text."""

    def __init__(self, text):
        self.held = Pricebook(read_days(text))

    @property
    def pricebook(self):
        """The very Pricebook that it leads."""
        return self.held

    def say(self, line):
        """The answer to a line."""
        if not is_word(line):
            return NO
        try:
            return self.answer(Line(line, 0))
        except (StepError, TooMany, Missing):
            return NO

    def answer(self, line):
        """The answer to a line; one that is refused raises an error, and nothing has changed then."""
        word = line.taken(lambda told: told in WORDS)
        if word in ("put", "change", "take"):
            return pair_text(self.deed(word, line))
        if word in ("bounds", "told"):
            least, greatest = self.held.bounds_of(self.claim_in(line))
            if word == "bounds":
                return pair_text((least, greatest))
            return "yes" if least == greatest else "not"
        line.end()
        if word == "labels":
            return " ".join(self.held.labels()) if self.held.labels() else "none"
        return self.undone() if word == "undo" else str(len(self.held))

    def claim_in(self, line):
        """The CLAIM of the TERM that all further words of a line are the text of."""
        term = tree_in(line, dict(TERM_SHAPES))
        line.end()
        return claim_of(self.held.days, term)

    def deed(self, word, line):
        """Does what a line tells; what the Pricebook returns."""
        label = line.taken(is_label)
        if word == "take":
            line.end()
            return self.held.take(label)
        bid = bound_in(line)
        ask = bound_in(line)
        if word == "change":
            line.end()
            return self.held.change(label, bid, ask)
        return self.held.put(label, self.claim_in(line), bid, ask)

    def undone(self):
        """Takes one deed back, if there is one."""
        if len(self.held) == 0:
            return "nothing"
        self.held.undo()
        return "done"
