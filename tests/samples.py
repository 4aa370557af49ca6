"""Things that several tests need: what is of the wrong kind, shares that are drawn, a way to refuse."""

import random
import unittest
from collections import namedtuple
from enum import IntEnum
from fractions import Fraction

import oracle

Pair = namedtuple("Pair", "number weight")


class Three(IntEnum):
    THREE = 3


class Whole(int):
    pass


class Word(str):
    pass


class Row(tuple):
    pass


class Agreeing:
    """Says of everything that it is equal to it."""

    def __eq__(self, other):
        return True

    __hash__ = None


def namesake(kind):
    """A thing of a class that only has the name of a kind that the package takes."""
    return type(kind, (list,), {})([0, 1])


# What is no integer, no tuple and no string of any kind that the package takes.
STRANGE = [
    None, True, False, [], [1], [(0, (1, 1))], {}, {0: (1, 1)}, set(), {1}, frozenset(), b"", b"ab", range(2),
    object(), object, int, tuple, len, print, lambda: 0, Agreeing(), Ellipsis, NotImplemented, ValueError("x"),
    slice(1), iter(()), 1j, Fraction(1, 2), bytearray(b"a"), memoryview(b"a"), namesake("int"), namesake("tuple"),
    namesake("str"),
]

# What is no FRACTION.
NO_FRACTIONS = STRANGE + [
    "", "1/2", 0, 1, -3, 10 ** 30, Three.THREE, (), (1,), (1, 2, 3), (1, 1, 1), (1, 0), (0, 0), (0, 2), (0, -1),
    (2, 4), (2, 2), (-2, 4), (1, -1), (1, -2), (-1, -2), (10 ** 25, 10 ** 24), [1, 2], (True, 1), (1, True),
    (False, 1), (1, None), (None, 1), ("1", "2"), ("1", 2), ((1, 1), (1, 1)), ((1,), 2), (1, [2]), Pair(1, 2),
    Row((1, 2)), (Whole(1), 2), (1, Whole(2)), (Three.THREE, 1), (1, Three.THREE), (Fraction(1), 1),
]

# What is no WEIGHT.
NO_WEIGHTS = NO_FRACTIONS + [(0, 1), (-1, 1), (-1, 2), (-10 ** 25, 7)]

# What is no NUMBER.
NO_NUMBERS = STRANGE + [
    "", "1", 101, -101, 1000, 10 ** 30, -10 ** 30, (), (1,), (1, 1), Whole(1), Three.THREE,
]

NINE = tuple((number, (1, 1)) for number in range(9))

# What is no SHARE.
NO_SHARES = STRANGE + [
    "", "none", 0, 1, (0,), (0, (1, 1)), ((0, (1, 1)), 1), ((0,),), ((0, (1, 1), 1),), ((0, 1),), ((0, (1,)),),
    ((0, (2, 4)),), ((0, (0, 1)),), ((0, (-1, 1)),), ((0, (1, 0)),), ((0, (1, -1)),), ((0, [1, 1]),),
    ((0, None),), ((None, (1, 1)),), (("0", (1, 1)),), ((True, (1, 1)),), ((0, (True, 1)),), ((0, (1, True)),),
    ((101, (1, 1)),), ((-101, (1, 1)),), ((10 ** 30, (1, 1)),), ([0, (1, 1)],), (None,), ((),), ("ab",),
    ((1, (1, 1)), (0, (1, 1))), ((1, (1, 1)), (1, (1, 2))), ((0, (1, 1)), (2, (1, 1)), (1, (1, 1))),
    ((0, (1, 1)), (1, (1, 1)), (1, (1, 1))), NINE, NINE + NINE, list(NINE[:2]), Row(((0, (1, 1)),)),
    (Pair(0, (1, 1)),), ((0, Pair(1, 1)),), ((Whole(0), (1, 1)),), ((Three.THREE, (1, 1)),),
    ((0, (1, 1)), None), (None, (0, (1, 1))), ((0, (1, 1)), ()), ((0, (Whole(1), 1)),),
]

# What is no TABLE.
NO_TABLES = STRANGE + [
    "", "none", 0, 1, (0,), (0, 0, (1, 1)), ((0, 0, (1, 1)), 1), ((0, 0),), ((0, (1, 1)),), ((0, 0, (1, 1), 1),),
    ((0, 0, 1),), ((0, 0, (2, 2)),), ((0, 0, (0, 1)),), ((0, 0, (-1, 1)),), ((0, 0, [1, 1]),), ((0, 0, None),),
    ((None, 0, (1, 1)),), ((0, None, (1, 1)),), ((False, 0, (1, 1)),), ((0, False, (1, 1)),),
    ((0, 0, (True, 1)),), ((101, 101, (1, 1)),), ((-101, -101, (1, 1)),), ([0, 0, (1, 1)],), (None,), ((),),
    (("0", "0", (1, 1)),), ((0, 1, (1, 1)),), ((0, -1, (1, 1)),), ((0, -1, (1, 1)), (0, 1, (1, 2))),
    ((0, -101, (1, 1)), (0, 101, (1, 1))), ((0, -1, (1, 1)), (0, 101, (1, 101))),
    ((1, 1, (1, 1)), (0, 0, (1, 1))), ((0, 1, (1, 1)), (0, -1, (1, 1))), ((0, 0, (1, 1)), (0, 0, (1, 1))),
    ((0, -1, (1, 1)), (0, -1, (1, 1)), (0, 1, (2, 1))), [(0, 0, (1, 1))], Row(((0, 0, (1, 1)),)),
    (Row((0, 0, (1, 1))),), ((0, 0, Pair(1, 1)),), ((Whole(0), 0, (1, 1)),), ((0, Whole(0), (1, 1)),),
    ((Three.THREE, 3, (1, 1)),), tuple((number, number, (1, 1)) for number in range(9)),
    ((0, 0, (1, 1)), (1, 0, (1, 1)), (1, 1, (1, 1))), ((0, -1, (1, 1)), (1, 3, (1, 1))),
]


def drawn_share(chance, most=8, parts=4):
    """A SHARE with 1 to most numbers near 0."""
    numbers = chance.sample(range(-5, 6), chance.randint(1, most))
    return oracle.share_of({number: Fraction(chance.randint(1, 6), chance.randint(1, parts)) for number in numbers})


def spread_share(chance, share, times):
    """A SHARE that is WIDER than another one: parts go to both sides, the mean staying."""
    weights = {number: oracle.worth(weight) for number, weight in share}
    for _ in range(times):
        number = chance.choice(sorted(weights))
        low, high = number - chance.randint(1, 4), number + chance.randint(1, 4)
        if len(set(weights) | {low, high}) > 8:
            continue
        part = weights[number] * Fraction(chance.randint(1, 4), 4)
        weights[number] -= part
        weights[low] = weights.get(low, 0) + part * Fraction(high - number, high - low)
        weights[high] = weights.get(high, 0) + part * Fraction(number - low, high - low)
        weights = {key: weight for key, weight in weights.items() if weight != 0}
    return oracle.share_of(weights)


def drawn_pairs(many, seed, most=5):
    """Pairs of SHARES, the second one WIDER than the first one."""
    chance = random.Random(seed)
    pairs = []
    for _ in range(many):
        one = drawn_share(chance, most)
        pairs.append((one, spread_share(chance, one, chance.randint(0, 12))))
    return pairs


def full_table():
    """A TABLE of 64 steps."""
    weights = {(x, y): Fraction(1) for x in range(-4, 4) for y in (-100, -60, -30, -10, 10, 30, 60, 100)}
    for x in range(-4, 4):
        # The ends are even on both sides: what is more at one of the outmost ones makes the mean x.
        weights[x, 100 if x > 0 else -100] += Fraction(8 * abs(x), 100 - abs(x))
    return oracle.table_of(weights)


class Case(unittest.TestCase):
    """A test case that knows how a call is refused."""

    def refuses(self, error, attribute, thing, call, *passed):
        """The call raises just this error, with the very thing, and changes nothing that it is passed."""
        ahead = repr(passed)
        with self.assertRaises(error, msg=ahead) as caught:
            call(*passed)
        self.assertIs(caught.exception.__class__, error, ahead)
        self.assertIs(getattr(caught.exception, attribute), thing, ahead)
        self.assertEqual(repr(passed), ahead)

    def refuses_part(self, error, part, call, *passed):
        """The call raises just this error with an equal part, and changes nothing that it is passed."""
        ahead = repr(passed)
        with self.assertRaises(error, msg=ahead) as caught:
            call(*passed)
        self.assertIs(caught.exception.__class__, error, ahead)
        self.assertEqual(caught.exception.part, part, ahead)
        self.assertEqual(repr(passed), ahead)

    def same(self, expected, call, *passed):
        """The call returns what is equal and of the same kinds, twice, and changes nothing that it is passed."""
        ahead = repr(passed)
        first = call(*passed)
        second = call(*passed)
        self.assertEqual(first, expected, ahead)
        self.assertEqual(repr(first), repr(expected), ahead)
        self.assertEqual(repr(second), repr(expected), ahead)
        self.assertEqual(repr(passed), ahead)
