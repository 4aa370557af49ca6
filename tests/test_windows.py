"""Point [5], and the section on windows.py."""

import random
import unittest
from fractions import Fraction

import oracle
import samples
from curtainsteps import windows
from curtainsteps.errors import BadNumber, BadShare, BadWeight
from curtainsteps.ratios import ratio

SHARE = ((-2, (1, 2)), (0, (1, 1)), (1, (1, 4)), (4, (1, 4)))
BIG = 10 ** 20 + 39
LARGE = ((-100, (BIG, 3)), (0, (1, BIG)), (100, (BIG, 3)))


def grid_shares(many, seed):
    """SHARES whose WEIGHTS are halves."""
    chance = random.Random(seed)
    return [samples.drawn_share(chance, 4, 1) for _ in range(many)]


class IsWindow(samples.Case):
    def test_windows(self):
        for value in [
            SHARE, SHARE[:1], SHARE[1:3], SHARE[3:], ((0, (1, 9)),), ((-2, (1, 3)), (0, (1, 1))),
            ((-2, (1, 3)), (0, (1, 5))), ((0, (1, 7)), (1, (1, 4)), (4, (1, 8))), ((-2, (1, 100)), *SHARE[1:]),
        ]:
            self.same(True, windows.is_window, SHARE, value)
        for share in [LARGE, ((100, (1, BIG)),)]:
            self.same(True, windows.is_window, share, share)

    def test_no_windows(self):
        for value in [
            (), ((-2, (2, 3)),), ((2, (1, 4)),), ((-2, (1, 2)), (1, (1, 4))), ((-2, (1, 2)), (0, (1, 2)), (1, (1, 4))),
            ((-2, (1, 2)), (0, (2, 1)), (1, (1, 4))), (SHARE[0], SHARE[1], SHARE[3]), ((0, (1, 2)), (4, (1, 4))),
            ((0, (1, 1)), (1, (1, 8)), (4, (1, 4))), SHARE + ((5, (1, 1)),), ((-3, (1, 1)), *SHARE), ((-1, (1, 1)),),
            ((-2, (1, 2)), (-1, (1, 1)), (0, (1, 1))), SHARE[::-1],
        ]:
            self.same(False, windows.is_window, SHARE, value)
        self.same(False, windows.is_window, (), ())
        self.same(False, windows.is_window, (), SHARE)

    def test_of_any_value(self):
        for value in samples.NO_SHARES + samples.NO_WEIGHTS:
            self.assertIs(windows.is_window(SHARE, value), False)
            self.assertIs(windows.is_window(((0, (9, 1)), (1, (9, 1))), value), False)
        # The numbers would do, were they plain.
        self.same(False, windows.is_window, ((0, (1, 1)), (1, (1, 1))), ((False, (1, 1)), (True, (1, 1))))
        self.same(False, windows.is_window, ((0, (1, 1)),), ((0, (2, 2)),))

    def test_by_the_words(self):
        chance = random.Random(10)
        answers = {True: 0, False: 0}
        for _ in range(400):
            share = samples.drawn_share(chance, 4, 1)
            kept = [(number, weight) for number, weight in share if chance.random() < 0.7]
            value = tuple((number, weight if chance.random() < 0.5 else (1, 2)) for number, weight in kept)
            answer = oracle.window(share, value)
            answers[answer] += 1
            self.assertIs(windows.is_window(share, value), answer)
        self.assertGreater(min(answers.values()), 50)


class Window(samples.Case):
    def test_one_number(self):
        self.same(((0, (1, 3)),), windows.window, SHARE, 0, (1, 3))
        self.same(((0, (1, 1)),), windows.window, SHARE, 0, (1, 1))
        self.same(((4, (1, 4)),), windows.window, SHARE, 4, (1, 4))
        self.same(((-2, (1, 2)),), windows.window, SHARE, -2, (1, 2))

    def test_all(self):
        share = ((-3, (1, 1)), (0, (2, 1)), (3, (1, 1)))
        self.same(share, windows.window, share, 0, (4, 1))
        self.same(LARGE, windows.window, LARGE, 0, ratio(2 * BIG * BIG + 3, 3 * BIG))
        self.same(((5, (1, BIG)),), windows.window, ((5, (1, BIG)),), 5, (1, BIG))

    def test_cut_at_one_end_or_at_both(self):
        self.same(((-2, (1, 4)), (0, (1, 1)), (1, (1, 4)), (4, (1, 16))), windows.window, SHARE, 0, (25, 16))
        share = ((-1, (1, 1)), (0, (1, 1)), (1, (1, 1)))
        self.same(((-1, (1, 4)), (0, (1, 1)), (1, (1, 4))), windows.window, share, 0, (3, 2))
        ends = ((-1, (1, 1)), (3, (1, 1)))
        self.same(((-1, (3, 4)), (3, (1, 4))), windows.window, ends, 0, (1, 1))
        self.same(((-1, (1, 1)), (3, (1, 3))), windows.window, ends, 0, (4, 3))
        self.same(((-1, (1, 3)), (3, (1, 1))), windows.window, ends, 2, (4, 3))

    def test_none(self):
        for number, weight in [(-2, (3, 4)), (4, (1, 2)), (-3, (1, 4)), (5, (1, 100)), (0, (2, 1)), (100, (1, 1))]:
            self.same(None, windows.window, SHARE, number, weight)
        self.same(None, windows.window, SHARE, 0, (3, 1))
        self.same(None, windows.window, (), 0, (1, 1))
        self.same(None, windows.window, ((0, (1, 1)),), 0, (BIG + 1, BIG))
        self.same(None, windows.window, ((-1, (1, 1)), (3, (1, 1))), 0, (3, 2))

    def test_the_only_one_among_all(self):
        for share in grid_shares(40, 11):
            seen = {}
            for value in oracle.windows(share, 2):
                weight, moment = oracle.total(value), oracle.moment(value)
                self.assertNotIn((weight, moment), seen)
                seen[weight, moment] = value
                if (moment / weight).denominator == 1:
                    self.same(value, windows.window, share, int(moment / weight), oracle.told(weight))

    def test_there_exactly_from_lowest_to_highest(self):
        chance = random.Random(12)
        found = {True: 0, False: 0}
        for share in grid_shares(60, 13):
            weight = oracle.total(share) * Fraction(chance.randint(1, 12), 12)
            least = oracle.moment(windows.lowest(share, oracle.told(weight)))
            most = oracle.moment(windows.highest(share, oracle.told(weight)))
            for number in range(-10, 11):
                value = windows.window(share, number, oracle.told(weight))
                found[value is not None] += 1
                self.assertIs(value is not None, least <= number * weight <= most)
                if value is not None:
                    self.assertTrue(oracle.window(share, value))
                    self.assertEqual(oracle.total(value), weight)
                    self.assertEqual(oracle.moment(value), number * weight)
        self.assertGreater(min(found.values()), 100)


class Ends(samples.Case):
    def test_plain_values(self):
        self.same(((-2, (1, 3)),), windows.lowest, SHARE, (1, 3))
        self.same(((-2, (1, 2)),), windows.lowest, SHARE, (1, 2))
        self.same(((-2, (1, 2)), (0, (1, 4))), windows.lowest, SHARE, (3, 4))
        self.same(((4, (1, 4)),), windows.highest, SHARE, (1, 4))
        self.same(((1, (1, 12)), (4, (1, 4))), windows.highest, SHARE, (1, 3))
        self.same(((0, (1, 2)), (1, (1, 4)), (4, (1, 4))), windows.highest, SHARE, (1, 1))

    def test_the_total(self):
        for share in [SHARE, LARGE, ((7, (1, BIG)),)]:
            whole = oracle.told(oracle.total(share))
            more = oracle.told(oracle.total(share) + Fraction(1, BIG * BIG))
            less = oracle.told(oracle.total(share) - Fraction(1, BIG * BIG))
            for call in [windows.lowest, windows.highest]:
                self.same(share, call, share, whole)
                self.refuses(BadWeight, "given", more, call, share, more)
                self.assertEqual(oracle.total(call(share, less)), oracle.worth(less))
        for call in [windows.lowest, windows.highest]:
            weight = (1, BIG)
            self.refuses(BadWeight, "given", weight, call, (), weight)

    def test_least_and_greatest_moment_of_all(self):
        for share in grid_shares(40, 14):
            by_total = {}
            for value in oracle.windows(share, 2):
                by_total.setdefault(oracle.total(value), []).append(value)
            for weight, values in by_total.items():
                self.same(min(values, key=oracle.moment), windows.lowest, share, oracle.told(weight))
                self.same(max(values, key=oracle.moment), windows.highest, share, oracle.told(weight))


class Wrong(samples.Case):
    def test_shares(self):
        for thing in samples.NO_SHARES:
            self.refuses(BadShare, "given", thing, windows.is_window, thing, SHARE)
            self.refuses(BadShare, "given", thing, windows.is_window, thing, None)
            self.refuses(BadShare, "given", thing, windows.window, thing, 0, (1, 1))
            self.refuses(BadShare, "given", thing, windows.window, thing, None, None)
            for call in [windows.lowest, windows.highest]:
                self.refuses(BadShare, "given", thing, call, thing, (1, 1))
                self.refuses(BadShare, "given", thing, call, thing, (2, 2))

    def test_numbers(self):
        for thing in samples.NO_NUMBERS:
            self.refuses(BadNumber, "given", thing, windows.window, SHARE, thing, (1, 1))
            self.refuses(BadNumber, "given", thing, windows.window, SHARE, thing, (0, 1))
            self.refuses(BadNumber, "given", thing, windows.window, (), thing, None)

    def test_weights(self):
        for thing in samples.NO_WEIGHTS:
            self.refuses(BadWeight, "given", thing, windows.window, SHARE, 0, thing)
            self.refuses(BadWeight, "given", thing, windows.window, (), 0, thing)
            for call in [windows.lowest, windows.highest]:
                self.refuses(BadWeight, "given", thing, call, SHARE, thing)
                self.refuses(BadWeight, "given", thing, call, (), thing)


if __name__ == "__main__":
    unittest.main()
