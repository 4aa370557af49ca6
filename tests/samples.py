"""Things that several tests need: what is of the wrong kind, shares that are drawn, a way to refuse."""

import random
import unittest
from collections import namedtuple
from enum import IntEnum
from fractions import Fraction
from itertools import product

import oracle
from curtainsteps.days import fair_share

Pair = namedtuple("Pair", "number weight")


class Three(IntEnum):
    THREE = 3


class Whole(int):
    pass


class Word(str):
    pass


class Row(tuple):
    pass


class Agreeing:
    """Says of everything that it is equal to it."""

    def __eq__(self, other):
        return True

    __hash__ = None


def namesake(kind):
    """A thing of a class that only has the name of a kind that the package takes."""
    return type(kind, (list,), {})([0, 1])


# What is no integer, no tuple and no string of any kind that the package takes.
STRANGE = [
    None, True, False, [], [1], [(0, (1, 1))], {}, {0: (1, 1)}, set(), {1}, frozenset(), b"", b"ab", range(2),
    object(), object, int, tuple, len, print, lambda: 0, Agreeing(), Ellipsis, NotImplemented, ValueError("x"),
    slice(1), iter(()), 1j, Fraction(1, 2), bytearray(b"a"), memoryview(b"a"), namesake("int"), namesake("tuple"),
    namesake("str"),
]

# What is no FRACTION.
NO_FRACTIONS = STRANGE + [
    "", "1/2", 0, 1, -3, 10 ** 30, Three.THREE, (), (1,), (1, 2, 3), (1, 1, 1), (1, 0), (0, 0), (0, 2), (0, -1),
    (2, 4), (2, 2), (-2, 4), (1, -1), (1, -2), (-1, -2), (10 ** 25, 10 ** 24), [1, 2], (True, 1), (1, True),
    (False, 1), (1, None), (None, 1), ("1", "2"), ("1", 2), ((1, 1), (1, 1)), ((1,), 2), (1, [2]), Pair(1, 2),
    Row((1, 2)), (Whole(1), 2), (1, Whole(2)), (Three.THREE, 1), (1, Three.THREE), (Fraction(1), 1),
]

# What is no WEIGHT.
NO_WEIGHTS = NO_FRACTIONS + [(0, 1), (-1, 1), (-1, 2), (-10 ** 25, 7)]

# What is no NUMBER.
NO_NUMBERS = STRANGE + [
    "", "1", 101, -101, 1000, 10 ** 30, -10 ** 30, (), (1,), (1, 1), Whole(1), Three.THREE,
]

NINE = tuple((number, (1, 1)) for number in range(9))

# What is no SHARE.
NO_SHARES = STRANGE + [
    "", "none", 0, 1, (0,), (0, (1, 1)), ((0, (1, 1)), 1), ((0,),), ((0, (1, 1), 1),), ((0, 1),), ((0, (1,)),),
    ((0, (2, 4)),), ((0, (0, 1)),), ((0, (-1, 1)),), ((0, (1, 0)),), ((0, (1, -1)),), ((0, [1, 1]),),
    ((0, None),), ((None, (1, 1)),), (("0", (1, 1)),), ((True, (1, 1)),), ((0, (True, 1)),), ((0, (1, True)),),
    ((101, (1, 1)),), ((-101, (1, 1)),), ((10 ** 30, (1, 1)),), ([0, (1, 1)],), (None,), ((),), ("ab",),
    ((1, (1, 1)), (0, (1, 1))), ((1, (1, 1)), (1, (1, 2))), ((0, (1, 1)), (2, (1, 1)), (1, (1, 1))),
    ((0, (1, 1)), (1, (1, 1)), (1, (1, 1))), NINE, NINE + NINE, list(NINE[:2]), Row(((0, (1, 1)),)),
    (Pair(0, (1, 1)),), ((0, Pair(1, 1)),), ((Whole(0), (1, 1)),), ((Three.THREE, (1, 1)),),
    ((0, (1, 1)), None), (None, (0, (1, 1))), ((0, (1, 1)), ()), ((0, (Whole(1), 1)),),
]

# What is no TABLE.
NO_TABLES = STRANGE + [
    "", "none", 0, 1, (0,), (0, 0, (1, 1)), ((0, 0, (1, 1)), 1), ((0, 0),), ((0, (1, 1)),), ((0, 0, (1, 1), 1),),
    ((0, 0, 1),), ((0, 0, (2, 2)),), ((0, 0, (0, 1)),), ((0, 0, (-1, 1)),), ((0, 0, [1, 1]),), ((0, 0, None),),
    ((None, 0, (1, 1)),), ((0, None, (1, 1)),), ((False, 0, (1, 1)),), ((0, False, (1, 1)),),
    ((0, 0, (True, 1)),), ((101, 101, (1, 1)),), ((-101, -101, (1, 1)),), ([0, 0, (1, 1)],), (None,), ((),),
    (("0", "0", (1, 1)),), ((0, 1, (1, 1)),), ((0, -1, (1, 1)),), ((0, -1, (1, 1)), (0, 1, (1, 2))),
    ((0, -101, (1, 1)), (0, 101, (1, 1))), ((0, -1, (1, 1)), (0, 101, (1, 101))),
    ((1, 1, (1, 1)), (0, 0, (1, 1))), ((0, 1, (1, 1)), (0, -1, (1, 1))), ((0, 0, (1, 1)), (0, 0, (1, 1))),
    ((0, -1, (1, 1)), (0, -1, (1, 1)), (0, 1, (2, 1))), [(0, 0, (1, 1))], Row(((0, 0, (1, 1)),)),
    (Row((0, 0, (1, 1))),), ((0, 0, Pair(1, 1)),), ((Whole(0), 0, (1, 1)),), ((0, Whole(0), (1, 1)),),
    ((Three.THREE, 3, (1, 1)),), tuple((number, number, (1, 1)) for number in range(9)),
    ((0, 0, (1, 1)), (1, 0, (1, 1)), (1, 1, (1, 1))), ((0, -1, (1, 1)), (1, 3, (1, 1))),
]

ONE = ((0, (1, 2)), (1, (1, 2)))
OTHER = ((-1, (1, 4)), (0, (1, 4)), (1, (1, 4)), (2, (1, 4)))
COSTS = ((1, 2, 3, 4), (-5, 0, 1000, -1000))
COST_ROW = COSTS[0]

# What are no COSTS of ONE and OTHER.
NO_COSTS = STRANGE + [
    (), (COST_ROW,), (COST_ROW, COST_ROW, COST_ROW), COST_ROW, "costs", 0, [COST_ROW, COST_ROW],
    (COST_ROW, list(COST_ROW)), (COST_ROW, COST_ROW[:3]), (COST_ROW, COST_ROW + (0,)), (COST_ROW[:3], COST_ROW),
    (COST_ROW, None), (None, COST_ROW), (COST_ROW, "1234"), (COST_ROW, ()), ((), ()), (COST_ROW, {1: 2}),
    (COST_ROW, 5), (COST_ROW, (1, 2, 3, True)), (COST_ROW, (False, 2, 3, 4)), (COST_ROW, (1, 2, 3, None)),
    (COST_ROW, (1, 2, 3, "4")), (COST_ROW, (1, 2, 3, (4,))), (COST_ROW, (1, 2, 3, 1001)),
    (COST_ROW, (-1001, 2, 3, 4)), ((1001, 2, 3, 4), COST_ROW), (COST_ROW, (1, 2, 3, 10 ** 30)),
    (COST_ROW, (1, 2, 3, -10 ** 30)), (COST_ROW, (1, 2, 3, Fraction(4))), ((1, 2),) * 4, (COST_ROW, Row(COST_ROW)),
    Row((COST_ROW, COST_ROW)), (COST_ROW, (1, 2, 3, Whole(4))), (COST_ROW, (1, 2, 3, Agreeing())),
    (COST_ROW, (1, 2, 3, [])), ((), (COST_ROW, COST_ROW)),
]

# What are no DAYS.
NO_DAYS = STRANGE + [
    "", "0", 0, 1, (), ((),), ((), (0,)), ((0,), ()), (0,), ((0,), 1), (("0",),), ((0,), ("1",)), ((0,), None),
    (None,), ([0],), [(0,)], ((0,), [1]), ((0, 0),), ((1, 0),), ((0, 2, 1),), ((0,), (1, 1)), ((True,),),
    ((0,), (False, 1)), ((0, True),), ((101,),), ((-101,),), ((0,), (10 ** 30,)), ((0,), (0, 101)), ((None,),),
    ((0, None),), (((0,),),), ((0,), ((1,),)), ((0,),) * 5, (tuple(range(9)),), ((0,), tuple(range(9))),
    (tuple(range(8)), tuple(range(5))), (tuple(range(3)), tuple(range(11))), ((0, 1, 2),) * 4,
    (tuple(range(4)), tuple(range(3)), tuple(range(3))), ((0, 1),) * 3 + ((0, 1, 2, 3, 4),), Row(((0,),)),
    (Row((0,)),), ((Whole(0),),), ((Three.THREE,),), ((Agreeing(),),), ({0: 1},), ((0,), {}), (range(2),),
    ((Fraction(1),),), ((), ()), (((0, (1, 1)),),),
]

# What is no LABEL.
NO_LABELS = STRANGE + [
    "", "abcdefghi", "a" * 9, "a" * 300, "A", "aB", "Ab", "Z", "a1", "1", "0", "a b", " ", " a", "a ", "a\n", "\n", "-",
    "a-b", "a_b", "a.", "{", "`", "@", "[", 0, 1, (), ("a",), ("a", "b"), ["a"], {"a": 1}, Word("a"), Word(""),
    10 ** 30, "a\x00", "\u00e9", "\u0430", "a\u0301",
]


def no_claims(many):
    """What are no CLAIMS of DAYS with so many PATHS, one at least."""
    good = tuple(range(many))
    return STRANGE + [
        "", "1" * many, 0, 5, (), good[1:], good + (0,), good * 2, list(good), Row(good), (good,), dict.fromkeys(good),
        good[:-1] + (10001,), good[:-1] + (-10001,), (10001,) + good[1:], (-10 ** 30,) + good[1:],
        good[:-1] + (10 ** 30,), good[:-1] + (True,), (False,) + good[1:], good[:-1] + (None,), (None,) + good[1:],
        good[:-1] + ("1",), good[:-1] + ((1,),), good[:-1] + ([],), good[:-1] + (Fraction(1),),
        good[:-1] + (Whole(1),), good[:-1] + (Three.THREE,), good[:-1] + (Agreeing(),), ((1, 1),) * many,
    ]


def no_fairs(fair):
    """What are no FAIR SHARES of DAYS that have this one."""
    return NO_FRACTIONS + [
        (), fair[1:], fair[:-1], fair + ((0, 1),), fair * 2, list(fair), Row(fair), (fair,), dict(enumerate(fair)),
        *[fair[:at] + (thing,) + fair[at + 1:] for at in (0, len(fair) - 1) for thing in NO_FRACTIONS],
        *[
            fair[:at] + ((top + bottom, bottom),) + fair[at + 1:]
            for at, (top, bottom) in enumerate(fair)
        ],
        *[
            fair[:at] + ((top - bottom, bottom),) + fair[at + 1:]
            for at, (top, bottom) in enumerate(fair)
        ],
        ((0, 1),) * len(fair), ((1, 1),) * (len(fair) + 1),
    ]


def no_hedges(book, hedge):
    """What are no HEDGES for a BOOK that has this one."""
    cash, buys, sells, dealing = hedge
    wrong_rows = [
        ((1, 1),) * (len(book) + 1), ((0, 1),) * (len(book) + 1), list(buys), None, 0, "", Row(buys), (True,), {},
    ]
    found = STRANGE + [
        (), hedge[:3], hedge + (0,), hedge[1:], list(hedge), Row(hedge), (hedge,), "hedge", 0, (cash,),
        *[(thing, buys, sells, dealing) for thing in NO_FRACTIONS],
        *[(cash, thing, sells, dealing) for thing in wrong_rows],
        *[(cash, buys, thing, dealing) for thing in wrong_rows],
        *[(cash, buys, sells, thing) for thing in [dealing + ((0, 1),), dealing + ((1, 2),), list(dealing), None, 0]],
    ]
    for at, (_, bid, ask) in enumerate(book):
        for thing in NO_FRACTIONS + [(-1, 1), (-1, 10 ** 30)]:
            found.append((cash, buys[:at] + (thing,) + buys[at + 1:], sells, dealing))
            found.append((cash, buys, sells[:at] + (thing,) + sells[at + 1:], dealing))
        found += [(cash, buys[:at] + ((1, 9),) + buys[at + 1:], sells, dealing)] * (ask is None)
        found += [(cash, buys, sells[:at] + ((1, 9),) + sells[at + 1:], dealing)] * (bid is None)
        found += [(cash, buys[1:], sells, dealing), (cash, buys, sells[1:], dealing)]
    for at in range(len(dealing)):
        found += [(cash, buys, sells, dealing[:at] + (thing,) + dealing[at + 1:]) for thing in NO_FRACTIONS]
        found.append((cash, buys, sells, dealing[1:]))
    return found


def drawn_share(chance, most=8, parts=4):
    """A SHARE with 1 to most numbers near 0."""
    numbers = chance.sample(range(-5, 6), chance.randint(1, most))
    return oracle.share_of({number: Fraction(chance.randint(1, 6), chance.randint(1, parts)) for number in numbers})


def spread_share(chance, share, times):
    """A SHARE that is WIDER than another one: parts go to both sides, the mean staying."""
    weights = {number: oracle.worth(weight) for number, weight in share}
    for _ in range(times):
        number = chance.choice(sorted(weights))
        low, high = number - chance.randint(1, 4), number + chance.randint(1, 4)
        if len(set(weights) | {low, high}) > 8:
            continue
        part = weights[number] * Fraction(chance.randint(1, 4), 4)
        weights[number] -= part
        weights[low] = weights.get(low, 0) + part * Fraction(high - number, high - low)
        weights[high] = weights.get(high, 0) + part * Fraction(number - low, high - low)
        weights = {key: weight for key, weight in weights.items() if weight != 0}
    return oracle.share_of(weights)


def drawn_costs(chance, one, other, most=1000):
    """COSTS of two SHARES."""
    return tuple(tuple(chance.randint(-most, most) for _ in other) for _ in one)


def drawn_days(chance, sizes, reach=6):
    """DAYS of so many NUMBERS near 0."""
    return tuple(tuple(sorted(chance.sample(range(-reach, reach + 1), size))) for size in sizes)


def spread_over(chance, share, ends):
    """A SHARE that is WIDER than another one: each of its pairs goes to drawn ends on both sides, some lie there."""
    weights = {}
    for number, weight in share:
        low = [end for end in ends if end <= number]
        high = [end for end in ends if end > number]
        for _ in range(2):
            below, above = chance.choice(low), chance.choice(high)
            part = oracle.worth(weight) / 2
            weights[below] = weights.get(below, 0) + part * Fraction(above - number, above - below)
            weights[above] = weights.get(above, 0) + part * Fraction(number - below, above - below)
    return oracle.share_of(weights)


def small_pairs(many, seed):
    """Pairs of SHARES of 2 or 3 and at most 5 numbers, the second one WIDER than the first one."""
    chance = random.Random(seed)
    pairs = []
    for _ in range(many):
        numbers = chance.sample(range(-3, 4), chance.randint(2, 3))
        one = oracle.share_of({number: Fraction(chance.randint(1, 4), chance.randint(1, 3)) for number in numbers})
        inner = chance.sample(range(-3, 4), 3 if len(one) == 2 else chance.randint(1, 2))
        pairs.append((one, spread_over(chance, one, [-4, *sorted(inner), 4])))
    return pairs


def drawn_books(many, seed, sizes, most=3):
    """DAYS and BOOKS, some kept by FAIR SHARES, some by none."""
    chance = random.Random(seed)
    found = []
    while len(found) < many:
        told = drawn_days(chance, chance.choice(sizes), 4)
        fair = fair_share(told)
        if fair is None and chance.random() < 0.7:
            continue
        book = []
        for _ in range(chance.randint(0, most)):
            claim = tuple(chance.randint(-9, 9) for _ in range(len(list(product(*told)))))
            middle = 0 if fair is None else int(oracle.mean(fair, claim))
            low, high = sorted([middle + chance.randint(-3, 2), middle + chance.randint(-2, 3)])
            book.append((claim, chance.choice([None, low, low, low]), chance.choice([None, high, high, high])))
        found.append((told, tuple(book)))
    return found


def drawn_pairs(many, seed, most=5):
    """Pairs of SHARES, the second one WIDER than the first one."""
    chance = random.Random(seed)
    pairs = []
    for _ in range(many):
        one = drawn_share(chance, most)
        pairs.append((one, spread_share(chance, one, chance.randint(0, 12))))
    return pairs


def full_table():
    """A TABLE of 64 steps."""
    weights = {(x, y): Fraction(1) for x in range(-4, 4) for y in (-100, -60, -30, -10, 10, 30, 60, 100)}
    for x in range(-4, 4):
        # The ends are even on both sides: what is more at one of the outmost ones makes the mean x.
        weights[x, 100 if x > 0 else -100] += Fraction(8 * abs(x), 100 - abs(x))
    return oracle.table_of(weights)


class Case(unittest.TestCase):
    """A test case that knows how a call is refused."""

    def refuses(self, error, attribute, thing, call, *passed):
        """The call raises just this error, with the very thing, and changes nothing that it is passed."""
        ahead = repr(passed)
        with self.assertRaises(error, msg=ahead) as caught:
            call(*passed)
        self.assertIs(caught.exception.__class__, error, ahead)
        self.assertIs(getattr(caught.exception, attribute), thing, ahead)
        self.assertEqual(repr(passed), ahead)

    def refuses_telling(self, error, told, call, *passed):
        """The call raises just this error with equal attributes, twice, and changes nothing that it is passed."""
        ahead = repr(passed)
        for _ in range(2):
            with self.assertRaises(error, msg=ahead) as caught:
                call(*passed)
            self.assertIs(caught.exception.__class__, error, ahead)
            self.assertEqual(repr(vars(caught.exception)), repr(told), ahead)
        self.assertEqual(repr(passed), ahead)

    def refuses_part(self, error, part, call, *passed):
        """The call raises just this error with an equal part."""
        self.refuses_telling(error, {"part": part}, call, *passed)

    def refuses_paper(self, error, check, call, *passed):
        """The call raises just this error, its paper being such that check takes it."""
        ahead = repr(passed)
        papers = []
        for _ in range(2):
            with self.assertRaises(error, msg=ahead) as caught:
                call(*passed)
            self.assertIs(caught.exception.__class__, error, ahead)
            papers.append(caught.exception.paper)
        check(papers[0])
        self.assertEqual(papers[0], papers[1])
        self.assertEqual(repr(passed), ahead)

    def same(self, expected, call, *passed):
        """The call returns what is equal and of the same kinds, twice, and changes nothing that it is passed."""
        ahead = repr(passed)
        first = call(*passed)
        second = call(*passed)
        self.assertEqual(first, expected, ahead)
        self.assertEqual(repr(first), repr(expected), ahead)
        self.assertEqual(repr(second), repr(expected), ahead)
        self.assertEqual(repr(passed), ahead)
