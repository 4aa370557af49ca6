"""TERMS and MIXES that are drawn, and the document's words on them told once more."""

from fractions import Fraction
from itertools import product

import oracle
import samples

# What stands behind each word: S for one more, else the bounds of an integer.
TERMS = {
    "cash": [(-1000, 1000)],
    "at": [(0, 3)],
    "above": [(0, 3), (-1000, 1000)],
    "below": [(0, 3), (-1000, 1000)],
    "lowest": [(0, 3)],
    "highest": [(0, 3)],
    "both": ["S", "S"],
    "short": ["S"],
    "times": ["S", (-1000, 1000)],
    "lesser": ["S", "S"],
    "greater": ["S", "S"],
    "if": [(0, 3), (-1000, 1000), "S", "S"],
}
MIXES = {
    "point": [(-100, 100), (1, 1000), (1, 1000)],
    "none": [],
    "mixed": ["S", "S"],
    "moved": ["S", (-200, 200)],
    "scaled": ["S", (1, 1000), (1, 1000)],
    "spread": ["S", (-100, 100), (-100, 100), (-100, 100)],
    "drawn": ["S", (-100, 100), (-100, 100)],
}
NO_TREES = samples.STRANGE + [
    "", "cash", "none", "at 0", 0, -7, (), ("",), ("cash",), ("point",), ("none", 0), ("none", "none"), (0,), ("at",),
    (None, 0), (True, 0), (0, "cash"), ("Cash", 0), ("cash ", 0), ("CASH", 0), ("what", 0), ("what",), (("cash",), 0),
    (["cash"], 0), ({}, 0), (b"cash", 0), ("cash", 0, 0), ["cash", 0], ["none"], ("cash", "0"), ("cash", None),
    ("cash", True), ("at", False), ("cash", [0]), ("cash", (0,)), ("cash", ("cash", 0)), samples.Row(("cash", 0)),
    samples.Row(("none",)), (samples.Word("cash"), 0), (samples.Word("none"),), ("cash", samples.Whole(0)),
    ("at", samples.Three.THREE), ("cash", Fraction(0)), ("at", -1), ("at", 4), ("at", 10 ** 30), ("cash", 1001),
    ("cash", -1001), ("cash", 10 ** 30), ("cash", samples.Agreeing()), (samples.Agreeing(), 0), ("point", 0, 1),
    ("point", 0, 1, 1, 1), ("point", (0, (1, 1))), ("point", 0, (1, 1)), ("point", 101, 1, 1), ("point", 0, 0, 1),
    ("point", 0, 1, 0), ("point", 0, 1001, 1), ("point", 0, 1, 1001), ("point", 0, -1, 1), ("point", True, 1, 1),
    ("point", 0, True, 1), ("point", 0, 1, True), {0: "cash", 1: 0}, {"cash": 0},
]


class Lacks(Exception):
    """A TERM has no CLAIM, a MIX has no SHARE."""

    def __init__(self, path):
        super().__init__(path)
        self.path = path


def kids(tree, words):
    """The pairs of an index and what stands there."""
    return [(at, tree[at]) for at, part in enumerate(words[tree[0]], start=1) if part == "S"]


def size(tree, words):
    """How many words it has."""
    return 1 + sum(size(kid, words) for _, kid in kids(tree, words))


def nodes(tree, words, path=()):
    """All pairs of a path and what stands there, each ahead of those in it."""
    yield path, tree
    for at, kid in kids(tree, words):
        yield from nodes(kid, words, (*path, at))


def replaced(tree, path, thing):
    """The tree with another thing at a path."""
    if path == ():
        return thing
    at = path[0]
    return tree[:at] + (replaced(tree[at], path[1:], thing),) + tree[at + 1:]


def formed(thing, words):
    """Whether it is a tuple of a word and of what stands behind it, by the words of the document."""
    if type(thing) is not tuple or len(thing) == 0 or type(thing[0]) is not str or thing[0] not in words:
        return False
    parts = words[thing[0]]
    if len(thing) != len(parts) + 1:
        return False
    for part, item in zip(parts, thing[1:]):
        if part != "S" and (type(item) is not int or not part[0] <= item <= part[1]):
            return False
    if thing[0] == "spread":
        return thing[3] < thing[2] < thing[4]
    return thing[0] != "drawn" or thing[2] <= thing[3]


def fault(thing, words):
    """The path to the first fault, or None."""
    count = 0

    def look(tree, path):
        nonlocal count
        count += 1
        if count == 21 or len(path) == 8:
            raise Lacks(())
        if not formed(tree, words):
            raise Lacks(path)
        for at, kid in kids(tree, words):
            look(kid, (*path, at))

    try:
        look(thing, ())
    except Lacks as caught:
        return caught.path
    return None


def paid(term, path):
    """What a TERM pays on a PATH."""
    word, *rest = term
    if word == "cash":
        return rest[0]
    if word == "at":
        return path[rest[0]]
    if word == "above":
        return path[rest[0]] - rest[1] if path[rest[0]] > rest[1] else 0
    if word == "below":
        return rest[1] - path[rest[0]] if path[rest[0]] < rest[1] else 0
    if word in ("lowest", "highest"):
        ordered = sorted(path[day] for day in range(rest[0] + 1))
        return ordered[0] if word == "lowest" else ordered[-1]
    if word == "both":
        return paid(rest[0], path) + paid(rest[1], path)
    if word == "short":
        return 0 - paid(rest[0], path)
    if word == "times":
        return rest[1] * paid(rest[0], path)
    if word in ("lesser", "greater"):
        ordered = sorted([paid(rest[0], path), paid(rest[1], path)])
        return ordered[0] if word == "lesser" else ordered[1]
    day, mark, high, low = rest
    return paid(high, path) if path[day] > mark else paid(low, path)


def claim(days, term, path=()):
    """The CLAIM, or Lacks of the first TERM that has none."""
    for at, kid in kids(term, TERMS):
        claim(days, kid, (*path, at))
    if any(part == (0, 3) and item >= len(days) for part, item in zip(TERMS[term[0]], term[1:])):
        raise Lacks(path)
    found = tuple(paid(term, way) for way in product(*days))
    if any(not -10000 <= item <= 10000 for item in found):
        raise Lacks(path)
    return found


def share(mix, path=()):
    """The SHARE, or Lacks of the first MIX that has none."""
    weights = {}

    def add(number, weight):
        weights[number] = weights.get(number, 0) + weight

    for at, kid in kids(mix, MIXES):
        for number, weight in share(kid, (*path, at)):
            add(number, oracle.worth(weight))
    word, *rest = mix
    if word == "point":
        add(rest[0], Fraction(rest[1], rest[2]))
    if word == "moved":
        weights = {number + rest[1]: weight for number, weight in weights.items()}
    if word == "scaled":
        weights = {number: weight * rest[1] / rest[2] for number, weight in weights.items()}
    if word == "spread":
        weight = weights.pop(rest[1], 0)
        add(rest[2], weight * Fraction(rest[3] - rest[1], rest[3] - rest[2]))
        add(rest[3], weight * Fraction(rest[1] - rest[2], rest[3] - rest[2]))
    if word == "drawn":
        inner = {number: weights.pop(number) for number in sorted(weights) if rest[1] <= number <= rest[2]}
        if inner:
            mean = sum(number * weight for number, weight in inner.items()) / sum(inner.values())
            if mean.denominator != 1:
                raise Lacks(path)
            add(mean.numerator, sum(inner.values()))
    found = oracle.share_of(weights)
    if len(found) > 8 or any(abs(number) > 100 for number, _ in found):
        raise Lacks(path)
    return found


def drawn_term(chance, room, deep=8, days=4, reach=6):
    """A TERM of at most so many words, of at most so many within one another."""
    one, two = ["short", "times"], ["both", "lesser", "greater", "if"]
    leaves = ["cash", "at", "above", "below", "lowest", "highest"]
    words = leaves if room < 2 or deep < 2 or chance.random() < 0.1 else one if room < 3 else one + two * 2
    word = chance.choice(words)
    day, mark = chance.randrange(days), chance.randint(-reach, reach)
    if word in two:
        left = chance.randint(1, room - 2)
        pair = [drawn_term(chance, many, deep - 1, days, reach) for many in (left, room - 1 - left)]
        return ("if", day, mark, *pair) if word == "if" else (word, *pair)
    if word in one:
        kid = drawn_term(chance, room - 1, deep - 1, days, reach)
        return (word, kid) if word == "short" else (word, kid, chance.randint(-3, 3))
    if word == "cash":
        return (word, mark)
    return (word, day, mark) if word in ("above", "below") else (word, day)


def drawn_mix(chance, room, deep=8, reach=6):
    """Of the form of a MIX; it may have no SHARE."""
    words = ["mixed"] * 4 + ["moved", "scaled", "spread", "spread", "drawn"]
    if room < 3:
        words = words[4:]
    if room < 2 or deep < 2 or chance.random() < 0.05:
        words = ["point"] * 9 + ["none"]
    word = chance.choice(words)
    numbers = sorted(chance.sample(range(-reach, reach + 1), 3))
    parts = [chance.randint(1, 4), chance.randint(1, 4)]
    if word == "point":
        return (word, numbers[0], *parts)
    if word == "none":
        return (word,)
    if word == "mixed":
        left = chance.randint(1, room - 2)
        return (word, *[drawn_mix(chance, many, deep - 1, reach) for many in (left, room - 1 - left)])
    kid = drawn_mix(chance, room - 1, deep - 1, reach)
    if word == "moved":
        return (word, kid, numbers[1])
    if word == "scaled":
        return (word, kid, *parts)
    if word == "spread":
        return (word, kid, numbers[1], numbers[0], numbers[2])
    return (word, kid, numbers[0], numbers[2])


def full(leaf, pair, one, many):
    """A tree of so many words, as flat as can be: leaves, what has two kids, and what makes one of a kid."""
    if many == 1:
        return leaf
    if many == 2:
        return one(leaf)
    left = (many - 1) // 2
    return (pair, full(leaf, pair, one, left), full(leaf, pair, one, many - 1 - left))


def full_term(many):
    """A TERM of so many words."""
    return full(("at", 0), "both", lambda kid: ("short", kid), many)


def full_mix(many):
    """A MIX of so many words."""
    return full(("point", 5, 1, 2), "mixed", lambda kid: ("moved", kid, 0), many)


def deep_term(many, leaf=("at", 0)):
    """A TERM of so many words, each within all others ahead."""
    return leaf if many == 1 else ("short", deep_term(many - 1, leaf))


def deep_mix(many, leaf=("point", 5, 1, 2)):
    """A MIX of so many words, each within all others ahead."""
    return leaf if many == 1 else ("moved", deep_mix(many - 1, leaf), 1)
