"""Sheets: two shares by words, and whether what is said of them is so."""

from curtainsteps.amounts import moment_of, rest_of, total_of
from curtainsteps.errors import BadText
from curtainsteps.exact import lowered
from curtainsteps.forms import is_number
from curtainsteps.mixes import share_of
from curtainsteps.reading import Line, lines_of, tree_of
from curtainsteps.shadows import is_part, shadow
from curtainsteps.shares import is_wider
from curtainsteps.tables import left_table
from curtainsteps.words import MIX_SHAPES

# A letter for each word behind that of a SAYING: N for an integer, F for one for a FRACTION.
SAYINGS = {
    "wider": "",
    "within": "",
    "total": "F",
    "moment": "F",
    "rest": "NF",
    "steps": "N",
    "goes": "NNF",
    "shadow": "",
}


def saying_of(text, number):
    """The tuple that a line says: its word, integers, and FRACTIONS in least terms."""
    line = Line(text, number)
    parts = [line.taken(lambda told: told in SAYINGS)]
    for kind in SAYINGS[parts[0]]:
        if kind == "F":
            top, bottom = line.fraction()
            parts.append(lowered(top, bottom))
        else:
            parts.append(line.integer())
    line.end()
    return tuple(parts)


def is_so(saying, other, table):
    """Whether a SAYING is so of the second SHARE and of the LEFT TABLE, None if there is none."""
    word = saying[0]
    if word == "total":
        return total_of(other) == saying[1]
    if word == "moment":
        return moment_of(other) == saying[1]
    if word == "rest":
        return is_number(saying[1]) and rest_of(other, saying[1]) == saying[2]
    if table is None:
        return False
    if word == "steps":
        return len(table) == saying[1]
    return saying[1:] in table


def judged(text):
    """The tuple of whether each SAYING of a SHEET is so."""
    lines = lines_of(text)
    first = tree_of(lines[0], 0, dict(MIX_SHAPES))
    if len(lines) == 1:
        raise BadText(1, 0)
    second = tree_of(lines[1], 1, dict(MIX_SHAPES))
    sayings = [saying_of(line, number) for number, line in enumerate(lines[2:], start=2)]
    one = share_of(first)
    other = share_of(second)
    table = left_table(one, other) if is_wider(one, other) else None
    facts = {
        "wider": table is not None,
        "within": is_part(one, other),
        "shadow": shadow(one, other) is not None,
    }
    return tuple([facts[said[0]] if said[0] in facts else is_so(said, other, table) for said in sayings])
