"""Points [8] and [9], and the section on crossings.py."""

import random
import unittest
from fractions import Fraction
from itertools import permutations

import oracle
import samples
from curtainsteps import crossings
from curtainsteps.errors import BadCrossing, BadTable
from curtainsteps.tables import left_table, need_table, right_table, table_by

BIG = 10 ** 20 + 39
# Two starts, three ends, one crossing.
CROSSED = ((0, -1, (1, 1)), (0, 2, (1, 2)), (1, 1, (1, 1)))
CROSSING = (0, 1, -1, 1, 2)
MENDED = ((0, -1, (3, 4)), (0, 1, (3, 4)), (1, -1, (1, 4)), (1, 1, (1, 4)), (1, 2, (1, 2)))


def drawn_tables(many, seed, most=4):
    """TABLES by orders that are drawn, and mixed of two such: many of them have crossings."""
    chance = random.Random(seed)
    found = []
    for one, other in samples.drawn_pairs(many, seed, most):
        orders = list(permutations(range(len(one))))
        first = table_by(one, other, chance.choice(orders))
        second = table_by(one, other, chance.choice(orders))
        weights = {}
        for x, y, weight in first + second:
            weights[x, y] = weights.get((x, y), 0) + oracle.worth(weight) / 2
        found += [first, oracle.table_of(weights)]
    return found


def mended(table, crossing):
    """Point [9] in its own words."""
    x, x2, y, y2, y3 = crossing
    p, q = Fraction(y3 - y2, y3 - y), Fraction(y2 - y, y3 - y)
    weights = {(a, b): oracle.worth(weight) for a, b, weight in table}
    change = {(x, y): -p, (x, y3): -q, (x, y2): 1, (x2, y): p, (x2, y3): q, (x2, y2): -1}
    e = min(weights[step] / -rate for step, rate in change.items() if rate < 0)
    for step, rate in change.items():
        weights[step] = weights.get(step, 0) + e * rate
    return oracle.table_of(weights)


class Crossings(samples.Case):
    def test_plain_values(self):
        self.same((CROSSING,), crossings.crossings, CROSSED)
        self.same((), crossings.crossings, ())
        self.same((), crossings.crossings, ((0, -1, (1, 1)), (0, 1, (1, 1)), (1, 1, (1, 1))))
        self.same((), crossings.crossings, ((0, -1, (1, 1)), (0, 1, (1, 1)), (1, -1, (1, 1)), (1, 3, (1, 1))))
        # The later start lies between: what counts is that it is the one behind.
        self.same((), crossings.crossings, ((0, 0, (1, 1)), (1, -1, (1, 1)), (1, 3, (1, 1))))
        self.same(((0, 1, -1, 0, 2), (0, 1, -1, 1, 2), (0, 1, 0, 1, 2)), crossings.crossings, (
            (0, -1, (1, 4)), (0, 0, (1, 8)), (0, 2, (1, 8)), (1, 0, (1, 8)), (1, 1, (1, 4)), (1, 2, (1, 8))))

    def test_by_the_words_and_ascending(self):
        many = 0
        for table in drawn_tables(60, 30) + [samples.full_table()]:
            found = crossings.crossings(table)
            self.same(oracle.crossings(table), crossings.crossings, table)
            self.assertEqual(list(found), sorted(set(found)))
            self.same(found == (), crossings.is_left, table)
            many += len(found) > 1
        self.assertGreater(many, 20)

    def test_left_table_has_none(self):
        unlike = 0
        for one, other in samples.drawn_pairs(60, 31):
            left, right = left_table(one, other), right_table(one, other)
            self.same((), crossings.crossings, left)
            self.same(True, crossings.is_left, left)
            self.same(left == right, crossings.is_left, right)
            unlike += left != right
        self.assertGreater(unlike, 10)

    def test_the_only_table_without(self):
        for table in drawn_tables(60, 32):
            left = left_table(oracle.start(table), oracle.end(table))
            self.same(table == left, crossings.is_left, table)


class Mended(samples.Case):
    def test_plain_values(self):
        # The greatest loss is that of the step from 0 to 2: half its weight by two thirds.
        self.same(mended(CROSSED, CROSSING), crossings.mended, CROSSED, CROSSING)
        self.same(MENDED, crossings.mended, CROSSED, CROSSING)

    def test_each_bound_of_the_loss(self):
        # In turn the step from X to Y, that from X to Y3, that from X2 to Y2 is the one that goes.
        table = ((0, -2, (1, 1)), (0, 2, (1, 1)), (1, 1, (9, 1)))
        self.same(((0, -2, (2, 3)), (0, 1, (4, 3)), (1, -2, (1, 3)), (1, 1, (23, 3)), (1, 2, (1, 1))),
                  crossings.mended, table, (0, 1, -2, 1, 2))
        table = ((0, -2, (1, 1)), (0, 2, (1, 1)), (1, -1, (9, 1)), (1, 3, (9, 1)))
        self.same(((0, -1, (4, 3)), (0, 2, (2, 3)), (1, -2, (1, 1)), (1, -1, (23, 3)), (1, 2, (1, 3)), (1, 3, (9, 1))),
                  crossings.mended, table, (0, 1, -2, -1, 2))
        table = ((0, -2, (1, 1)), (0, 2, (1, 1)), (1, 1, (1, 2)))
        self.same(((0, -2, (7, 8)), (0, 1, (1, 2)), (0, 2, (5, 8)), (1, -2, (1, 8)), (1, 2, (3, 8))),
                  crossings.mended, table, (0, 1, -2, 1, 2))
        # All three at once.
        table = ((0, -1, (1, 2)), (0, 1, (1, 2)), (1, 0, (1, 1)), (1, 2, (1, 1)))
        self.same(((0, 0, (1, 1)), (1, -1, (1, 2)), (1, 1, (1, 2)), (1, 2, (1, 1))),
                  crossings.mended, table, (0, 1, -1, 0, 1))

    def test_large_integers(self):
        table = ((0, -1, (BIG, 2)), (0, 1, (BIG, 2)), (1, 0, (1, BIG)), (1, 2, (1, BIG)))
        self.same(mended(table, (0, 1, -1, 0, 1)), crossings.mended, table, (0, 1, -1, 0, 1))

    def test_each_crossing_of_many_tables(self):
        gone = came = 0
        for table in drawn_tables(60, 33):
            for crossing in crossings.crossings(table):
                found = crossings.mended(table, crossing)
                self.same(mended(table, crossing), crossings.mended, table, crossing)
                self.assertIs(need_table(found), found)
                self.assertEqual(oracle.start(found), oracle.start(table))
                self.assertEqual(oracle.end(found), oracle.end(table))
                self.assertGreater(oracle.bend(found), oracle.bend(table))
                steps, now = {step[:2] for step in table}, {step[:2] for step in found}
                self.assertTrue(steps - now)
                gone += len(steps - now) > 1
                came += len(now - steps) > 0
        self.assertGreater(gone, 5)
        self.assertGreater(came, 50)

    def test_mended_until_none_is_left(self):
        chance = random.Random(34)
        for table in drawn_tables(60, 35):
            left = left_table(oracle.start(table), oracle.end(table))
            for _ in range(1000):
                found = crossings.crossings(table)
                if not found:
                    break
                table = crossings.mended(table, chance.choice(found))
            self.assertEqual(table, left)

    def test_what_is_no_crossing(self):
        table = ((0, -1, (1, 4)), (0, 0, (1, 8)), (0, 2, (1, 8)), (1, 0, (1, 8)), (1, 1, (1, 4)), (1, 2, (1, 8)))
        for thing in samples.STRANGE + [
            (), (0,), (0, 1, -1, 0), (0, 1, -1, 0, 2, 2), "01-102", [0, 1, -1, 0, 2], (0, True, -1, 0, 2),
            (False, 1, -1, 0, 2), (0, 1, -1, False, 2), (0, 1, -1, True, 2), (1, 0, -1, 0, 2), (0, 1, -1, 2, 2),
            (0, 1, 2, 0, -1), (0, 1, 0, 0, 2), (0, 0, -1, 0, 2), (0, 1, -1, -1, 2), (0, 2, -1, 0, 2), (0, 1, -1, 0, 3),
            (0, 1, -2, 0, 2), (None,) * 5, (0, 1, -1, 0, None), ("0", "1", "-1", "0", "2"), ((0, 1), -1, 0, 2, 2),
            ((0, 1, -1, 0, 2),), samples.Row((0, 1, -1, 0, 2)), (samples.Whole(0), 1, -1, 0, 2),
            (0, 1, -1, 0, 10 ** 30),
            (0, 1, -1, 0, samples.Agreeing()), (samples.Agreeing(),) * 5, 0, 5, CROSSING + (0,), ([], 1, -1, 0, 2),
        ]:
            self.refuses(BadCrossing, "given", thing, crossings.mended, table, thing)
        for table in [(), MENDED, left_table(oracle.start(CROSSED), oracle.end(CROSSED))]:
            crossing = (0, 1, -1, 0, 2)
            self.refuses(BadCrossing, "given", crossing, crossings.mended, table, crossing)

    def test_crossings_of_another_table(self):
        for table in drawn_tables(20, 36):
            own = crossings.crossings(table)
            for x, x2, y, y2, y3 in own:
                for thing in [(x - 1, x2, y, y2, y3), (x, x2 + 1, y, y2, y3), (x, x2, y - 1, y2, y3),
                              (x, x2, y, y2 + 1, y3), (x, x2, y, y2, y3 + 1), (x2, x, y, y2, y3)]:
                    if thing not in own:
                        self.refuses(BadCrossing, "given", thing, crossings.mended, table, thing)


class Bend(samples.Case):
    def test_plain_values(self):
        self.same((0, 1), crossings.bend, ())
        self.same((1, 1), crossings.bend, CROSSED)
        self.same((-1, BIG), crossings.bend, ((-1, -1, (1, BIG)),))
        self.same((100 ** 3, 1), crossings.bend, ((100, 100, (1, 1)),))
        self.same((9, 1), crossings.bend, ((-1, -1, (1, 1)), (0, 0, (1, 1)), (1, -1, (1, 1)), (1, 3, (1, 1))))

    def test_by_the_words(self):
        for table in drawn_tables(40, 37) + [samples.full_table()]:
            self.same(oracle.told(oracle.bend(table)), crossings.bend, table)

    def test_left_table_has_the_greatest(self):
        for table in drawn_tables(40, 38):
            left = left_table(oracle.start(table), oracle.end(table))
            self.assertLessEqual(oracle.bend(table), oracle.worth(crossings.bend(left)))


class Wrong(samples.Case):
    def test_what_is_no_table(self):
        for thing in samples.NO_TABLES:
            for call in [crossings.crossings, crossings.is_left, crossings.bend]:
                self.refuses(BadTable, "given", thing, call, thing)
            self.refuses(BadTable, "given", thing, crossings.mended, thing, CROSSING)
            self.refuses(BadTable, "given", thing, crossings.mended, thing, None)


if __name__ == "__main__":
    unittest.main()
