"""Points [28] and [29], and the section on mixes.py."""

import random
import unittest
from fractions import Fraction

import oracle
import samples
import trees
from curtainsteps import mixes
from curtainsteps.errors import BadMix
from curtainsteps.shares import is_wider, need_share

POINT = ("point", 0, 1, 1)
NONE = ("none",)


def together(*parts):
    """One MIX after another, put together."""
    mix = parts[0]
    for part in parts[1:]:
        mix = ("mixed", mix, part)
    return mix


def points(numbers):
    """A MIX with the WEIGHT (1, 1) at each number, as flat as can be."""
    if len(numbers) == 1:
        return ("point", numbers[0], 1, 1)
    half = len(numbers) // 2
    return ("mixed", points(numbers[:half]), points(numbers[half:]))


class Case(samples.Case):
    def bad(self, path, call, *passed):
        """The call raises BadMix with this path."""
        self.refuses_telling(BadMix, {"path": path}, call, *passed)

    def none(self, path, thing):
        """It is no MIX: by all calls the fault is at this path."""
        for call in [mixes.need_mix, mixes.share_of, mixes.parts_of]:
            self.bad(path, call, thing)

    def right(self, share, mix):
        """It is a MIX with this SHARE."""
        self.assertIs(mixes.need_mix(mix), mix)
        self.same(share, mixes.share_of, mix)
        self.assertIs(need_share(share), share)


class Form(Case):
    def test_bounds_of_integers(self):
        for make, bounds in [
            (lambda n: ("point", n, 1, 1), [(-100, 100)]), (lambda n: ("point", 0, n, 1), [(1, 1000)]),
            (lambda n: ("point", 0, 1, n), [(1, 1000)]), (lambda n: ("moved", NONE, n), [(-200, 200)]),
            (lambda n: ("scaled", POINT, n, 1), [(1, 1000)]), (lambda n: ("scaled", POINT, 1, n), [(1, 1000)]),
            (lambda n: ("spread", POINT, n, -100, 100), [(-99, 99)]),
            (lambda n: ("spread", POINT, 0, n, 5), [(-100, -1)]),
            (lambda n: ("spread", POINT, 0, -5, n), [(1, 100)]), (lambda n: ("drawn", POINT, n, 100), [(-100, 100)]),
            (lambda n: ("drawn", POINT, -100, n), [(-100, 100)]), (lambda n: ("drawn", POINT, n, n), [(-100, 100)]),
            (lambda n: ("drawn", POINT, n, 3), [(-100, 3)]), (lambda n: ("drawn", POINT, 3, n), [(3, 100)]),
            (lambda n: ("spread", POINT, 5, n, 9), [(-100, 4)]), (lambda n: ("spread", POINT, 5, 1, n), [(6, 100)]),
            (lambda n: ("spread", POINT, n, 5, 9), [(6, 8)]),
        ]:
            for low, high in bounds:
                for good in (low, high, (low + high) // 2):
                    self.assertEqual(mixes.need_mix(make(good)), make(good))
                for bad in [low - 1, high + 1, -10 ** 30, 10 ** 30, "1", "", (), samples.Whole(1), *samples.STRANGE]:
                    self.none((), make(bad))

    def test_what_are_none(self):
        for thing in trees.NO_TREES + [("cash", 0), ("at", 0), ("both", POINT, POINT), ("short", NONE)]:
            self.none((), thing)

    def test_the_number_of_things(self):
        for good in [
            POINT, NONE, ("mixed", POINT, NONE), ("moved", POINT, 1), ("scaled", POINT, 2, 3),
            ("spread", POINT, 0, -1, 1), ("drawn", POINT, -1, 1),
        ]:
            self.assertIs(mixes.need_mix(good), good)
            for thing in [good[:-1], good + (1,), good + (POINT,), list(good), (good,), (good[0] + " ", *good[1:])]:
                self.none((), thing)

    def test_things_of_another_place(self):
        for thing, path in [
            (("moved", 1, POINT), ()), (("scaled", 1, 2, POINT), ()), (("mixed", 1, POINT), (1,)),
            (("mixed", POINT, 1), (2,)), (("moved", 1, 1), (1,)), (("scaled", 1, 1, 1), (1,)), (("none", POINT), ()),
            (("spread", 0, 0, -1, 1), (1,)), (("drawn", 0, 0, 0), (1,)), (("point", POINT, 1, 1), ()),
            (("spread", POINT, POINT, -1, 1), ()), (("mixed", list(POINT), POINT), (1,)), (("moved", (), 1), (1,)),
            (("mixed", POINT, ("point",)), (2,)), (("drawn", ("cash", 0), 0, 0), (1,)),
        ]:
            self.none(path, thing)

    def test_the_first_fault(self):
        for path, thing in [
            ((1,), ("mixed", None, None)), ((2,), ("mixed", POINT, None)), ((), ("mixed", None, None, None)),
            ((), ("moved", None, 201)), ((), ("scaled", None, 0, 1)), ((), ("spread", None, 0, 0, 1)),
            ((), ("spread", None, 0, 1, 0)), ((), ("drawn", None, 1, 0)), ((1, 1), ("moved", ("moved", None, 0), 0)),
            ((1, 1), ("mixed", ("mixed", None, POINT), None)), ((1, 2), ("mixed", ("mixed", NONE, None), None)),
            ((1,), ("mixed", ("moved", None, 201), None)), ((2, 2), ("mixed", POINT, ("mixed", NONE, ("mixed", NONE)))),
        ]:
            self.none(path, thing)
        for thing in trees.NO_TREES:
            self.none((1, 1), ("mixed", ("moved", thing, 0), thing))
            self.none((2, 2), ("mixed", ("moved", POINT, 200), ("mixed", NONE, thing)))

    def test_20_words(self):
        for many in range(1, 21):
            mix = trees.full_mix(many)
            self.assertEqual(trees.size(mix, trees.MIXES), many)
            self.assertIs(mixes.need_mix(mix), mix)
        for many in range(21, 45):
            self.none((), trees.full_mix(many))
        last = [path for path, _ in trees.nodes(trees.full_mix(21), trees.MIXES)][-1]
        for thing in trees.NO_TREES:
            self.none((), trees.replaced(trees.full_mix(21), last, thing))
        twenty = trees.full_mix(20)
        for path, node in trees.nodes(twenty, trees.MIXES):
            self.none(path, trees.replaced(twenty, path, ("point", 0, 0, 1)))
            self.none((), trees.replaced(twenty, path, ("mixed", node, NONE)))
        self.none((1, 1), trees.replaced(trees.full_mix(30), (1, 1), None))

    def test_8_within_one_another(self):
        for many in range(1, 9):
            self.right(((5 + many - 1, (1, 2)),), trees.deep_mix(many))
        for many in range(9, 30):
            self.none((), trees.deep_mix(many))
        for thing in trees.NO_TREES:
            self.none((1,) * 7, trees.deep_mix(8, thing))
            self.none((), trees.deep_mix(9, thing))
            self.none((), trees.deep_mix(12, thing))
        self.none((), ("mixed", NONE, trees.deep_mix(8)))
        self.none((1,), ("mixed", None, trees.deep_mix(8)))
        self.none((), ("mixed", trees.deep_mix(8), None))
        self.none((2,), ("mixed", trees.deep_mix(7), None))

    def test_parts(self):
        for leaf in [POINT, NONE]:
            self.same((), mixes.parts_of, leaf)
            for mix in [("moved", leaf, 1), ("scaled", leaf, 1, 2), ("spread", leaf, 0, -1, 1), ("drawn", leaf, -1, 1)]:
                self.same((leaf,), mixes.parts_of, mix)
                self.same((mix, leaf), mixes.parts_of, ("mixed", mix, leaf))


class Shares(Case):
    def test_points(self):
        self.right((), NONE)
        self.right(((0, (1, 1)),), POINT)
        self.right(((-100, (1, 1000)),), ("point", -100, 1, 1000))
        self.right(((100, (1000, 1)),), ("point", 100, 1000, 1))
        # A and B not in least terms.
        self.right(((7, (1, 2)),), ("point", 7, 2, 4))
        self.right(((7, (3, 2)),), ("point", 7, 999, 666))
        self.right(((7, (1, 1)),), ("point", 7, 1000, 1000))

    def test_mixed(self):
        self.right(((0, (2, 1)),), ("mixed", POINT, POINT))
        self.right(((0, (1, 1)),), ("mixed", POINT, NONE))
        self.right(((0, (1, 1)),), ("mixed", NONE, POINT))
        self.right((), ("mixed", NONE, NONE))
        self.right(((-3, (1, 2)), (0, (5, 6))), together(("point", 0, 1, 2), ("point", -3, 1, 2), ("point", 0, 1, 3)))

    def test_eight_numbers_and_nine(self):
        eight = points(list(range(8)))
        self.right(tuple((number, (1, 1)) for number in range(8)), eight)
        self.none((), ("mixed", eight, ("point", 8, 1, 1)))
        self.none((), ("mixed", ("point", 8, 1, 1), eight))
        self.right(
            ((0, (1, 1)), (1, (1, 1)), (2, (1, 1)), (3, (3, 1))) + tuple((number, (1, 1)) for number in range(4, 8)),
            ("mixed", ("point", 3, 2, 1), eight))
        # One goes, two come; or one was there already.
        self.none((), ("spread", eight, 3, -1, 8))
        whole = dict.fromkeys([0, 1, 4, 5, 6, 7], 1)
        self.right(oracle.share_of({**whole, 2: Fraction(11, 6), 8: Fraction(1, 6)}), ("spread", eight, 3, 2, 8))
        self.right(tuple((number, (1, 1)) for number in range(8)), ("spread", eight, 8, -1, 9))

    def test_moved(self):
        two = ("mixed", ("point", -3, 1, 2), ("point", 5, 1, 1))
        self.right(((-3, (1, 2)), (5, (1, 1))), ("moved", two, 0))
        self.right(((-1, (1, 2)), (7, (1, 1))), ("moved", two, 2))
        self.right(((92, (1, 2)), (100, (1, 1))), ("moved", two, 95))
        self.none((), ("moved", two, 96))
        self.right(((-100, (1, 2)), (-92, (1, 1))), ("moved", two, -97))
        self.none((), ("moved", two, -98))
        self.none((), ("moved", two, 200))
        self.right((), ("moved", NONE, 200))
        self.right((), ("moved", NONE, -200))
        self.right(((100, (1, 1)),), ("moved", ("point", -100, 1, 1), 200))
        self.right(((-100, (1, 1)),), ("moved", ("point", 100, 1, 1), -200))

    def test_scaled(self):
        two = ("mixed", ("point", -3, 1, 2), ("point", 5, 1, 1))
        self.right(((-3, (1, 3)), (5, (2, 3))), ("scaled", two, 2, 3))
        self.right(((-3, (1, 2)), (5, (1, 1))), ("scaled", two, 7, 7))
        self.right(((-3, (1, 2000)), (5, (1, 1000))), ("scaled", two, 1, 1000))
        self.right(((-3, (500, 1)), (5, (1000, 1))), ("scaled", two, 1000, 1))
        self.right((), ("scaled", NONE, 3, 4))
        mix, many = POINT, 0
        for _ in range(7):
            mix, many = ("scaled", mix, 1000, 999), many + 1
        self.right(((0, (1000 ** 7, 999 ** 7)),), mix)

    def test_spread(self):
        self.right(((-1, (1, 2)), (1, (1, 2))), ("spread", POINT, 0, -1, 1))
        self.right(((-1, (2, 3)), (2, (1, 3))), ("spread", POINT, 0, -1, 2))
        self.right(((-100, (1, 3)), (50, (2, 3))), ("spread", POINT, 0, -100, 50))
        # Nothing is at X: S itself.
        self.right(((0, (1, 1)),), ("spread", POINT, 1, 0, 2))
        self.right(((0, (1, 1)),), ("spread", POINT, -1, -2, 0))
        self.right((), ("spread", NONE, 0, -1, 1))
        # What is at LOW and at HIGH already stays.
        three = together(("point", -1, 1, 1), POINT, ("point", 1, 2, 1), ("point", 9, 1, 1))
        self.right(((-1, (3, 2)), (1, (5, 2)), (9, (1, 1))), ("spread", three, 0, -1, 1))
        self.right(((-1, (5, 3)), (1, (2, 1)), (2, (1, 3)), (9, (1, 1))), ("spread", three, 0, -1, 2))

    def test_drawn(self):
        pair = ("mixed", ("point", -1, 1, 1), ("point", 3, 1, 1))
        self.right(((1, (2, 1)),), ("drawn", pair, -1, 3))
        self.right(((1, (2, 1)),), ("drawn", pair, -100, 100))
        # Some of it only; one alone stays; nothing there.
        self.right(((-1, (1, 1)), (3, (1, 1))), ("drawn", pair, -1, 2))
        self.right(((-1, (1, 1)), (3, (1, 1))), ("drawn", pair, 0, 3))
        self.right(((-1, (1, 1)), (3, (1, 1))), ("drawn", pair, 3, 3))
        self.right(((-1, (1, 1)), (3, (1, 1))), ("drawn", pair, -1, -1))
        self.right(((-1, (1, 1)), (3, (1, 1))), ("drawn", pair, 0, 2))
        self.right(((-1, (1, 1)), (3, (1, 1))), ("drawn", pair, 4, 100))
        self.right((), ("drawn", NONE, -5, 5))
        # No integer at which the MOMENT stays.
        odd = ("mixed", ("point", 0, 1, 1), ("point", 1, 1, 1))
        self.none((), ("drawn", odd, 0, 1))
        self.none((), ("drawn", odd, -100, 100))
        self.right(((0, (1, 1)), (1, (1, 1))), ("drawn", odd, 0, 0))
        self.none((), ("drawn", ("mixed", ("point", 0, 1, 1), ("point", -1, 1, 2)), -1, 0))
        self.right(((-1, (3, 2)),), ("drawn", ("mixed", ("point", 0, 1, 1), ("point", -3, 1, 2)), -3, 0))
        # What is outside stays; at the number there is something already.
        four = together(pair, ("point", 1, 1, 3), ("point", 8, 1, 1), ("point", -9, 1, 1))
        self.right(((-9, (1, 1)), (1, (7, 3)), (8, (1, 1))), ("drawn", four, -1, 3))
        self.right(((-9, (1, 1)), (1, (7, 3)), (8, (1, 1))), ("drawn", four, -8, 7))

    def test_no_share_within_another_one(self):
        nine = ("mixed", points(list(range(8))), ("point", 8, 1, 1))
        over = ("moved", ("point", 100, 1, 1), 1)
        odd = ("drawn", ("mixed", ("point", 0, 1, 1), ("point", 1, 1, 1)), 0, 1)
        for path, mix in [
            ((1,), ("mixed", over, POINT)), ((2,), ("mixed", POINT, over)), ((1,), ("mixed", over, over)),
            ((1,), ("mixed", odd, over)), ((1,), ("moved", over, -1)), ((1,), ("drawn", nine, -100, 100)),
            ((1,), ("scaled", odd, 1, 2)), ((1,), ("spread", over, 0, -1, 1)), ((1,), ("drawn", over, 0, 0)),
            # Those ahead of the whole, from left to right; the whole behind them.
            ((1, 2), ("mixed", ("mixed", POINT, odd), over)), ((2, 1), ("mixed", POINT, ("moved", odd, 200))),
            ((1, 1), ("moved", ("moved", ("moved", ("point", 100, 1, 1), 5), 5), 5)),
            ((), ("moved", ("moved", ("moved", ("point", 100, 1, 1), -5), 4), 2)),
        ]:
            self.none(path, mix)

    def test_form_ahead_of_shares(self):
        over = ("moved", ("point", 100, 1, 1), 1)
        for path, mix in [
            ((2,), ("mixed", over, None)), ((2, 2), ("mixed", over, ("mixed", over, ("point", 0, 0, 1)))),
            ((), ("moved", over, 201)), ((), ("mixed", over, trees.deep_mix(8))),
            ((), ("mixed", over, trees.full_mix(18))),
        ]:
            self.none(path, mix)
        self.none((1,), ("mixed", over, trees.full_mix(17)))
        self.none((1,), ("mixed", over, trees.deep_mix(7)))

    def test_by_the_words(self):
        chance = random.Random(1)
        lacking = broken = 0
        for _ in range(700):
            mix = trees.drawn_mix(chance, chance.randint(1, 20), 8, chance.choice([4, 8, 40]))
            if chance.random() < 0.3:
                path, _ = chance.choice(list(trees.nodes(mix, trees.MIXES)))
                thing = chance.choice([None, ("moved", POINT, 201), ("drawn", NONE, 2, 1), NONE])
                mix = trees.replaced(mix, path, thing)
            path = trees.fault(mix, trees.MIXES)
            if path is None:
                try:
                    self.right(trees.share(mix), mix)
                    continue
                except trees.Lacks as caught:
                    lacking += 1
                    path = caught.path
            else:
                broken += 1
            self.none(path, mix)
        self.assertTrue(40 < lacking < 300, lacking)
        self.assertGreater(broken, 60)


class Facts(samples.Case):
    def drawn(self, chance, room):
        """A MIX that has a SHARE."""
        while True:
            mix = trees.drawn_mix(chance, room, 5)
            try:
                trees.share(mix)
                return mix
            except trees.Lacks:
                pass

    def test_wider_and_less_wide(self):
        chance = random.Random(2)
        unlike = 0
        for _ in range(150):
            mix = self.drawn(chance, chance.randint(3, 12))
            share = mixes.share_of(mix)
            middle = chance.choice([number for number, _ in share] or [0])
            low, high = middle - chance.randint(1, 6), middle + chance.randint(1, 6)
            for way, made in [(1, ("spread", mix, middle, low, high)), (-1, ("drawn", mix, low, high))]:
                try:
                    other = mixes.share_of(made)
                except BadMix:
                    continue
                unlike += other != share
                self.assertTrue(is_wider(share, other) if way == 1 else is_wider(other, share))
        self.assertGreater(unlike, 60)

    def test_made_likewise(self):
        chance = random.Random(3)
        seen = 0
        for _ in range(150):
            pairs = []
            for _ in range(2):
                mix = self.drawn(chance, 5)
                numbers = [number for number, _ in mixes.share_of(mix)] or [0]
                middle = chance.choice(numbers)
                low, high = middle - chance.randint(1, 5), middle + chance.randint(1, 5)
                pairs.append((mix, ("spread", mix, middle, low, high)))
            (one, wide_one), (two, wide_two) = pairs
            by, top, bottom = chance.randint(-9, 9), chance.randint(1, 9), chance.randint(1, 9)
            for left, right in [
                (("mixed", one, two), ("mixed", wide_one, wide_two)), (("moved", one, by), ("moved", wide_one, by)),
                (("scaled", one, top, bottom), ("scaled", wide_one, top, bottom)),
            ]:
                try:
                    shares = (mixes.share_of(left), mixes.share_of(right))
                except BadMix:
                    continue
                seen += 1
                self.assertTrue(is_wider(*shares))
                self.assertEqual(oracle.total(shares[0]), oracle.total(shares[1]))
        self.assertGreater(seen, 200)


if __name__ == "__main__":
    unittest.main()
