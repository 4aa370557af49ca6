"""The words of TERMS and of MIXES: what stands behind each, and where a thing is neither.

A letter stands for each thing behind a word: S for one more TERM or MIX, any other one for an integer.
"""

from curtainsteps.forms import is_row, is_whole_within, is_word

MOST_WORDS = 20
MOST_WITHIN = 8
KID = "S"
DAY = "D"
BOUNDS = {"N": (-1000, 1000), "D": (0, 3), "X": (-100, 100), "A": (1, 1000), "M": (-200, 200)}
TERM_SHAPES = {
    "cash": "N",
    "at": "D",
    "above": "DN",
    "below": "DN",
    "lowest": "D",
    "highest": "D",
    "both": "SS",
    "short": "S",
    "times": "SN",
    "lesser": "SS",
    "greater": "SS",
    "if": "DNSS",
}
MIX_SHAPES = {
    "point": "XAA",
    "none": "",
    "mixed": "SS",
    "moved": "SM",
    "scaled": "SAA",
    "spread": "SXXX",
    "drawn": "SXX",
}


def kid_places(shape):
    """The indexes at which TERMS or MIXES stand."""
    return [at for at, kind in enumerate(shape, start=1) if kind == KID]


def whole_places(shape):
    """The indexes at which integers stand."""
    return [at for at, kind in enumerate(shape, start=1) if kind != KID]


def may_stand(kind, thing):
    """Whether a thing may stand where a shape has this letter; a TERM or a MIX is not looked at."""
    if kind == KID:
        return True
    least, most = BOUNDS[kind]
    return is_whole_within(thing, least, most)


def is_in_order(thing):
    """Whether the integers behind a word are in such an order as it wants."""
    if thing[0] == "spread":
        return thing[3] < thing[2] and thing[2] < thing[4]
    if thing[0] == "drawn":
        return thing[2] <= thing[3]
    return True


def is_formed(thing, shapes):
    """Whether it is a tuple of a word and what this wants; TERMS and MIXES in it are not looked at."""
    if not is_row(thing) or len(thing) == 0 or not is_word(thing[0]) or thing[0] not in shapes:
        return False
    shape = shapes[thing[0]]
    if len(thing) != 1 + len(shape):
        return False
    return all([may_stand(kind, item) for kind, item in zip(shape, thing[1:])]) and is_in_order(thing)


def fault_in(whole, shapes):
    """The path to tell of what is not formed: the first in the whole, each ahead of those in it; None if all is."""
    waiting = [((), whole)]
    many = 0
    while waiting:
        path, thing = waiting.pop()
        many += 1
        # Neither the fault of this thing nor its place, but the size of the whole.
        if many > MOST_WORDS or len(path) == MOST_WITHIN:
            return ()
        if not is_formed(thing, shapes):
            return path
        places = kid_places(shapes[thing[0]])
        waiting.extend([((*path, at), thing[at]) for at in places[::-1]])
    return None
