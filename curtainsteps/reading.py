"""Reading by form alone: lines, words between single spaces, integers, FRACTIONS, trees of words."""

from curtainsteps.errors import BadText
from curtainsteps.forms import is_word
from curtainsteps.words import MOST_WORDS, kid_places, whole_places

DIGITS = "0123456789"
MOST_FIGURES = 31
NONE = "none"


def is_figures(word):
    """Whether it is an integer from 0 on, without needless zeros, of not too many figures."""
    if word == "" or len(word) > MOST_FIGURES or not all([letter in DIGITS for letter in word]):
        return False
    return word == "0" or word[0] != "0"


def is_integer(word):
    """Whether it is an integer, without needless zeros."""
    if word.startswith("-"):
        return word != "-0" and is_figures(word[1:])
    return is_figures(word)


def is_quotient(word):
    """Whether it is a word for a FRACTION."""
    top, stroke, bottom = word.partition("/")
    if stroke == "":
        return is_integer(word)
    return is_integer(top) and is_figures(bottom) and bottom != "0"


class Line:
    """The words of one line, that are taken one after another; named counts those for TERMS or MIXES among them."""

    def __init__(self, text, number):
        self.number = number
        self.words = text.split(" ")
        self.at = 0
        self.named = 0

    def refuse(self):
        """Refuses the next word, or that there is none."""
        raise BadText(self.number, self.at)

    def has_more(self):
        """Whether there is a next word."""
        return self.at < len(self.words)

    def taken(self, may_stand):
        """The next word, that may stand there."""
        if not self.has_more() or not may_stand(self.words[self.at]):
            self.refuse()
        self.at += 1
        return self.words[self.at - 1]

    def integer(self):
        """The next word, an integer."""
        return int(self.taken(is_integer))

    def fraction(self):
        """The next word, for a FRACTION, as it stands there: perhaps not in least terms."""
        top, stroke, bottom = self.taken(is_quotient).partition("/")
        return (int(top), 1 if stroke == "" else int(bottom))

    def end(self):
        """Refuses a next word."""
        if self.has_more():
            self.refuse()

    def is_none(self):
        """Whether the line is "none"; behind this word it refuses a next one."""
        if self.words[0] != NONE:
            return False
        self.at = 1
        self.end()
        return True


def lines_of(text):
    """The lines of a text."""
    if not is_word(text):
        raise BadText(None, None)
    return text.split("\n")


def need_no_more(lines, most):
    """Refuses a line too many."""
    if len(lines) > most:
        raise BadText(most, 0)


def tree_in(line, shapes):
    """What begins with the next word of a line, by the shapes of its words."""
    # One word too many cannot stand, whatever it is.
    if line.named == MOST_WORDS:
        line.refuse()
    word = line.taken(lambda told: told in shapes)
    line.named += 1
    parts = {}
    for at in whole_places(shapes[word]):
        parts[at] = line.integer()
    for at in kid_places(shapes[word]):
        parts[at] = tree_in(line, shapes)
    return (word, *[parts[at] for at in sorted(parts)])


def tree_of(text, number, shapes):
    """What a line is the text of."""
    line = Line(text, number)
    tree = tree_in(line, shapes)
    line.end()
    return tree


def several(line, most, read):
    """The tuple of all that is read from a line, one at least."""
    found = [read(line)]
    while line.has_more() and len(found) < most:
        found.append(read(line))
    line.end()
    return tuple(found)
