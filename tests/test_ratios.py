"""Points [1] and [2], and the section on ratios.py."""

import unittest
from fractions import Fraction

import oracle
import samples
from curtainsteps import ratios
from curtainsteps.errors import BadFraction, BadNumber

BIG = 10 ** 20 + 39
FRACTIONS = [
    (0, 1), (1, 1), (-1, 1), (1, 2), (-1, 2), (2, 3), (-7, 3), (100, 1), (5, 6), (BIG, 1), (-BIG, 1), (1, BIG),
    (-1, BIG), (BIG, BIG + 1), (10 ** 59 + 1, 10 ** 59), (3, 10 ** 200 + 1),
]
TWO = [ratios.plus, ratios.less, ratios.times, ratios.over, ratios.is_less]


class Fractions(samples.Case):
    def test_need_fraction_gives_the_thing_itself(self):
        for fraction in FRACTIONS:
            self.assertIs(ratios.need_fraction(fraction), fraction)

    def test_need_fraction_refuses(self):
        for thing in samples.NO_FRACTIONS:
            self.refuses(BadFraction, "given", thing, ratios.need_fraction, thing)

    def test_ratio(self):
        wholes = [0, 1, -1, 2, -2, 6, -9, 12, 100, 10 ** 20, -10 ** 20, 6 * BIG, -15 * BIG, 10 ** 60 - 1]
        for top in wholes:
            for bottom in wholes:
                if bottom != 0:
                    self.same(oracle.told(Fraction(top, bottom)), ratios.ratio, top, bottom)
        self.same((0, 1), ratios.ratio, 0, -7)
        self.same((-1, 2), ratios.ratio, 3, -6)
        self.same((1, 2), ratios.ratio, -3, -6)

    def test_ratio_refuses(self):
        no_wholes = samples.STRANGE + ["", "1", (), (1, 1), samples.Whole(1), samples.Three.THREE]
        for thing in no_wholes:
            self.refuses(BadNumber, "given", thing, ratios.ratio, thing, 1)
            self.refuses(BadNumber, "given", thing, ratios.ratio, 1, thing)
            self.refuses(BadNumber, "given", thing, ratios.ratio, thing, 0)
            for behind in [None, [], "x"]:
                self.refuses(BadNumber, "given", thing, ratios.ratio, thing, behind)
        self.refuses(BadNumber, "given", 0, ratios.ratio, 1, 0)
        self.refuses(BadNumber, "given", 0, ratios.ratio, 0, 0)


class Arithmetic(samples.Case):
    def test_against_fractions(self):
        for one in FRACTIONS:
            for other in FRACTIONS:
                a, b = oracle.worth(one), oracle.worth(other)
                self.same(oracle.told(a + b), ratios.plus, one, other)
                self.same(oracle.told(a - b), ratios.less, one, other)
                self.same(oracle.told(a * b), ratios.times, one, other)
                self.same(a < b, ratios.is_less, one, other)
                if b != 0:
                    self.same(oracle.told(a / b), ratios.over, one, other)

    def test_plain_values(self):
        self.same((5, 6), ratios.plus, (1, 2), (1, 3))
        self.same((0, 1), ratios.plus, (1, 2), (-1, 2))
        self.same((1, 6), ratios.less, (1, 2), (1, 3))
        self.same((0, 1), ratios.less, (7, 5), (7, 5))
        self.same((1, 3), ratios.times, (1, 2), (2, 3))
        self.same((0, 1), ratios.times, (0, 1), (-2, 3))
        self.same((-3, 4), ratios.over, (1, 2), (-2, 3))
        self.same((0, 1), ratios.over, (0, 1), (-2, 3))
        self.same(False, ratios.is_less, (1, 2), (1, 2))
        self.same(True, ratios.is_less, (-1, 2), (0, 1))

    def test_what_is_told_may_be_passed_on(self):
        value = (2, 3)
        for _ in range(12):
            value = ratios.times(value, value)
        self.assertEqual(value, (2 ** 4096, 3 ** 4096))
        # Larger than what Python would turn into text.
        self.assertEqual(ratios.over(ratios.times(value, value), value), value)
        for _ in range(4):
            value = ratios.times(value, value)
        self.assertIs(ratios.need_fraction(value), value)
        self.assertEqual(ratios.less(value, value), (0, 1))

    def test_nought_below(self):
        for one in FRACTIONS:
            self.refuses(BadFraction, "given", FRACTIONS[0], ratios.over, one, FRACTIONS[0])

    def test_wrong_arguments_in_their_order(self):
        for thing in samples.NO_FRACTIONS:
            for call in TWO:
                self.refuses(BadFraction, "given", thing, call, thing, (1, 2))
                self.refuses(BadFraction, "given", thing, call, (1, 2), thing)
                self.refuses(BadFraction, "given", thing, call, thing, [1])
                self.refuses(BadFraction, "given", thing, call, thing, (0, 1))


if __name__ == "__main__":
    unittest.main()
