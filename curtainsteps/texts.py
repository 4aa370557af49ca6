"""The texts of terms, mixes, shares, tables and days, and what is read from texts."""

from curtainsteps.days import need_days
from curtainsteps.forms import MOST_PAIRS
from curtainsteps.mixes import need_mix
from curtainsteps.paths import MOST_DAYS
from curtainsteps.reading import NONE, Line, lines_of, need_no_more, several, tree_of
from curtainsteps.shares import need_share
from curtainsteps.steps import MOST_STEPS
from curtainsteps.tables import need_table
from curtainsteps.terms import need_term
from curtainsteps.words import MIX_SHAPES, TERM_SHAPES, kid_places, whole_places


def tree_text(tree, shapes):
    """The text of a TERM or a MIX, by the shapes of its words."""
    shape = shapes[tree[0]]
    wholes = [str(tree[at]) for at in whole_places(shape)]
    kids = [tree_text(tree[at], shapes) for at in kid_places(shape)]
    return " ".join([tree[0], *wholes, *kids])


def fraction_text(fraction):
    """The text of a FRACTION."""
    top, bottom = fraction
    return str(top) if bottom == 1 else f"{top}/{bottom}"


def term_text(term):
    """The text of a TERM."""
    return tree_text(need_term(term), dict(TERM_SHAPES))


def mix_text(mix):
    """The text of a MIX."""
    return tree_text(need_mix(mix), dict(MIX_SHAPES))


def share_text(share):
    """The text of a SHARE."""
    pairs = [f"{number} {fraction_text(weight)}" for number, weight in need_share(share)]
    return " ".join(pairs) if pairs else NONE


def table_text(table):
    """The text of a TABLE."""
    steps = [f"{x} {y} {fraction_text(weight)}" for x, y, weight in need_table(table)]
    return "\n".join(steps) if steps else NONE


def days_text(days):
    """The text of DAYS."""
    return "\n".join([" ".join([str(number) for number in day]) for day in need_days(days)])


def read_tree(text, shapes):
    """What a text of one line is the text of."""
    lines = lines_of(text)
    tree = tree_of(lines[0], 0, shapes)
    need_no_more(lines, 1)
    return tree


def read_term(text):
    """The TERM with this text."""
    return need_term(read_tree(text, dict(TERM_SHAPES)))


def read_mix(text):
    """The MIX with this text."""
    return need_mix(read_tree(text, dict(MIX_SHAPES)))


def read_share(text):
    """The SHARE with this text."""
    lines = lines_of(text)
    line = Line(lines[0], 0)
    pairs = ()
    if not line.is_none():
        pairs = several(line, MOST_PAIRS, lambda one: (one.integer(), one.fraction()))
    need_no_more(lines, 1)
    return need_share(pairs)


def step_of(text, number):
    """The step that a line tells."""
    line = Line(text, number)
    step = (line.integer(), line.integer(), line.fraction())
    line.end()
    return step


def read_table(text):
    """The TABLE with this text."""
    lines = lines_of(text)
    if Line(lines[0], 0).is_none():
        need_no_more(lines, 1)
        return ()
    steps = [step_of(line, number) for number, line in enumerate(lines[:MOST_STEPS])]
    need_no_more(lines, MOST_STEPS)
    return need_table(tuple(steps))


def read_days(text):
    """The DAYS with this text."""
    lines = lines_of(text)
    days = [
        several(Line(line, number), MOST_PAIRS, lambda one: one.integer())
        for number, line in enumerate(lines[:MOST_DAYS])
    ]
    need_no_more(lines, MOST_DAYS)
    return need_days(tuple(days))
