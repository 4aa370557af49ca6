"""Points [24] and [25], and the section on chained.py."""

import random
import unittest
from fractions import Fraction
from itertools import product

import oracle
import samples
from curtainsteps import chained
from curtainsteps.bounds import greatest_paper
from curtainsteps.days import fair_share, is_fair, need_days, paths_of
from curtainsteps.errors import BadDays, BadFair, BadNumber, BadTable, TooMany
from curtainsteps.shares import is_wider, need_share
from curtainsteps.tables import end_of, left_table, need_table, right_table, start_of, table_by

HALF = (1, 2)
TWO = ((0,), (-1, 0, 1))
FAIR = (HALF, (0, 1), HALF)
THREE = ((0,), (-2, 1), (-3, 0, 4))
# From 0 a third to -2, of which two thirds go to -3 and a third to 0; from 1 all to 0 and 4.
THREE_FAIR = ((2, 9), (1, 9), (0, 1), (0, 1), HALF, (1, 6))
STAY = ((0, 0, (1, 1)),)
SPLIT = ((0, -1, HALF), (0, 1, HALF))
AGAIN = ((-1, -2, (1, 4)), (-1, 0, (1, 4)), (1, 0, (1, 4)), (1, 2, (1, 4)))

SIZES = [(1,), (3,), (8,), (2, 3), (1, 4), (3, 8), (2, 2, 3), (1, 3, 4), (2, 2, 2, 4), (1, 1, 2, 3)]


def share_by_words(days, fair, day):
    weights = {}
    for path, fraction in zip(product(*days), fair):
        weights[path[day]] = weights.get(path[day], 0) + oracle.worth(fraction)
    return oracle.share_of(weights)


def table_by_words(days, fair, day):
    weights = {}
    for path, fraction in zip(product(*days), fair):
        step = (path[day], path[day + 1])
        weights[step] = weights.get(step, 0) + oracle.worth(fraction)
    return oracle.table_of(weights)


def days_by_words(tables):
    shares = [oracle.start(tables[0])] + [oracle.end(table) for table in tables]
    return tuple(tuple(number for number, _ in share) for share in shares)


def fair_by_words(tables):
    """Point [25] in its own words."""
    fair = []
    whole = oracle.total(oracle.start(tables[0]))
    for path in product(*days_by_words(tables)):
        part = 1 / whole
        for at, table in enumerate(tables):
            steps = {(x, y): oracle.worth(weight) for x, y, weight in table}
            part *= steps.get((path[at], path[at + 1]), 0)
            if at > 0:
                part /= dict((x, oracle.worth(weight)) for x, weight in oracle.start(table))[path[at]]
        fair.append(oracle.told(part))
    return tuple(fair)


def scaled_table(table, by):
    return tuple((x, y, oracle.told(oracle.worth(weight) * by)) for x, y, weight in table)


def scaled_share(share, by):
    return tuple((x, oracle.told(oracle.worth(weight) * by)) for x, weight in share)


def drawn_fairs(many, seed):
    """DAYS and FAIR SHARES of them, most with nought on some PATHS."""
    chance = random.Random(seed)
    found = []
    while len(found) < many:
        sizes = chance.choice(SIZES)
        told = samples.drawn_days(chance, sizes)
        claims = [tuple(chance.randint(-9, 9) for _ in product(*told)) for _ in range(chance.randint(1, 3))]
        if fair_share(told) is not None:
            fairs = [greatest_paper(told, (), claim)[0] for claim in claims]
            means = [sum(oracle.worth(item) for item in row) / len(fairs) for row in zip(*fairs)]
            found.append((told, tuple(map(oracle.told, means))))
    return found


def drawn_chains(many, seed):
    """CHAINS of one to three TABLES, those of more than 32 PATHS among them."""
    chance = random.Random(seed)
    found = []
    while len(found) < many:
        share = samples.drawn_share(chance, chance.randint(1, 3))
        tables = []
        for _ in range(chance.randint(1, 3)):
            other = samples.spread_share(chance, share, chance.randint(0, 2))
            order = list(range(len(share)))
            chance.shuffle(order)
            tables.append(table_by(share, other, tuple(order)))
            share = other
        found.append(tuple(tables))
    return found


class ByDays(samples.Case):
    def test_plain_values(self):
        self.same(((0, (1, 1)),), chained.share_of_day, TWO, FAIR, 0)
        # Nought is left out.
        self.same(((-1, HALF), (1, HALF)), chained.share_of_day, TWO, FAIR, 1)
        self.same(SPLIT, chained.table_of_day, TWO, FAIR, 0)
        self.same(((7, (1, 1)),), chained.share_of_day, ((7,),), ((1, 1),), 0)
        self.same(((3, (1, 3)), (9, (2, 3))), chained.share_of_day, ((3, 9),), ((1, 3), (2, 3)), 0)
        self.same(((9, (1, 1)),), chained.share_of_day, ((3, 9),), ((0, 1), (1, 1)), 0)
        self.same(((0, (1, 1)),), chained.share_of_day, TWO, ((0, 1), (1, 1), (0, 1)), 1)
        self.same(STAY, chained.table_of_day, TWO, ((0, 1), (1, 1), (0, 1)), 0)

    def test_three_days(self):
        self.same(((0, (1, 1)),), chained.share_of_day, THREE, THREE_FAIR, 0)
        self.same(((-2, (1, 3)), (1, (2, 3))), chained.share_of_day, THREE, THREE_FAIR, 1)
        self.same(((-3, (2, 9)), (0, (11, 18)), (4, (1, 6))), chained.share_of_day, THREE, THREE_FAIR, 2)
        self.same(((0, -2, (1, 3)), (0, 1, (2, 3))), chained.table_of_day, THREE, THREE_FAIR, 0)
        self.same(
            ((-2, -3, (2, 9)), (-2, 0, (1, 9)), (1, 0, HALF), (1, 4, (1, 6))),
            chained.table_of_day, THREE, THREE_FAIR, 1)

    def test_by_the_words(self):
        lengths = set()
        noughts = 0
        for told, fair in drawn_fairs(60, 1):
            lengths.add(len(told))
            noughts += (0, 1) in fair
            for day in range(len(told)):
                self.same(share_by_words(told, fair, day), chained.share_of_day, told, fair, day)
            for day in range(len(told) - 1):
                self.same(table_by_words(told, fair, day), chained.table_of_day, told, fair, day)
        self.assertEqual(lengths, {1, 2, 3, 4})
        self.assertGreater(noughts, 20)

    def test_facts(self):
        for told, fair in drawn_fairs(40, 2):
            shares = [need_share(chained.share_of_day(told, fair, day)) for day in range(len(told))]
            for day in range(len(told) - 1):
                table = need_table(chained.table_of_day(told, fair, day))
                self.assertEqual(start_of(table), shares[day])
                self.assertEqual(end_of(table), shares[day + 1])
                self.assertTrue(is_wider(shares[day], shares[day + 1]))

    def test_what_is_no_day(self):
        four = ((0,),) * 4
        for told, fair in [(((7,),), ((1, 1),)), (TWO, FAIR), (THREE, THREE_FAIR), (four, ((1, 1),))]:
            for thing in samples.STRANGE + ["", "0", -1, len(told), 4, 5, 100, -100, 10 ** 30, (), (0,),
                                            samples.Whole(0), samples.Three.THREE, Fraction(0)]:
                self.refuses(BadNumber, "given", thing, chained.share_of_day, told, fair, thing)
                self.refuses(BadNumber, "given", thing, chained.table_of_day, told, fair, thing)
            last = len(told) - 1
            self.refuses(BadNumber, "given", last, chained.table_of_day, told, fair, last)

    def test_what_are_no_days_and_no_fair_shares(self):
        for call in [chained.share_of_day, chained.table_of_day]:
            for thing in samples.NO_DAYS:
                self.refuses(BadDays, "given", thing, call, thing, ((1, 1),), 0)
                self.refuses(BadDays, "given", thing, call, thing, None, None)
            for thing in samples.no_fairs(FAIR):
                self.refuses(BadFair, "given", thing, call, TWO, thing, 0)
                self.refuses(BadFair, "given", thing, call, TWO, thing, -1)
                self.refuses(BadFair, "given", thing, call, TWO, thing, None)


class Chains(samples.Case):
    def test_plain_values(self):
        self.same(((0,), (0,)), chained.days_of, (STAY,))
        self.same(((1, 1),), chained.chained, (STAY,))
        self.same(((0,),) * 4, chained.days_of, (STAY,) * 3)
        self.same(((1, 1),), chained.chained, (STAY,) * 3)
        self.same(((0,), (-1, 1)), chained.days_of, (SPLIT,))
        self.same((HALF, HALF), chained.chained, (SPLIT,))
        self.same(((0,), (-1, 1), (-2, 0, 2)), chained.days_of, (SPLIT, AGAIN))
        quarter = (1, 4)
        self.same((quarter, quarter, (0, 1), (0, 1), quarter, quarter), chained.chained, (SPLIT, AGAIN))
        self.same(((0,), (0,), (-1, 1), (-2, 0, 2)), chained.days_of, (STAY, SPLIT, AGAIN))
        self.same((quarter, quarter, (0, 1), (0, 1), quarter, quarter), chained.chained, (STAY, SPLIT, AGAIN))

    def test_a_total_of_its_own(self):
        table = ((0, -1, (2, 1)), (0, 2, (1, 1)), (5, 5, (1, 2)))
        self.same(((0, 5), (-1, 2, 5)), chained.days_of, (table,))
        self.same(((4, 7), (2, 7), (0, 1), (0, 1), (0, 1), (1, 7)), chained.chained, (table,))
        behind = ((-1, -1, (2, 1)), (2, 0, (3, 5)), (2, 5, (2, 5)), (5, 5, (1, 2)))
        self.same(((0, 5), (-1, 2, 5), (-1, 0, 5)), chained.days_of, (table, behind))
        fair = [(0, 1)] * 18
        fair[0], fair[4], fair[5], fair[17] = (4, 7), (6, 35), (4, 35), (1, 7)
        self.same(tuple(fair), chained.chained, (table, behind))

    def test_by_the_words(self):
        lengths, totals, refused, noughts = set(), 0, 0, 0
        for tables in drawn_chains(150, 3):
            days = days_by_words(tables)
            if len(list(product(*days))) > 32:
                refused += 1
                self.too_many(tables)
                continue
            lengths.add(len(tables))
            self.same(days, chained.days_of, tables)
            fair = fair_by_words(tables)
            noughts += (0, 1) in fair
            self.same(fair, chained.chained, tables)
            self.assertTrue(is_fair(need_days(days), fair))
            whole = oracle.total(oracle.start(tables[0]))
            totals += whole != 1
            self.same(scaled_share(oracle.start(tables[0]), 1 / whole), chained.share_of_day, days, fair, 0)
            for day, table in enumerate(tables):
                self.same(scaled_table(table, 1 / whole), chained.table_of_day, days, fair, day)
                self.same(scaled_share(oracle.end(table), 1 / whole), chained.share_of_day, days, fair, day + 1)
        self.assertEqual(lengths, {1, 2, 3})
        self.assertGreater(totals, 50)
        self.assertGreater(refused, 5)
        self.assertGreater(noughts, 20)

    def test_what_a_fair_share_tells_makes_a_chain(self):
        for told, fair in drawn_fairs(30, 4):
            if len(told) > 1:
                tables = tuple(chained.table_of_day(told, fair, day) for day in range(len(told) - 1))
                again = chained.chained(tables)
                days = chained.days_of(tables)
                for day, table in enumerate(tables):
                    self.assertEqual(chained.table_of_day(days, again, day), table)

    def too_many(self, tables):
        for call in [chained.days_of, chained.chained]:
            for _ in range(2):
                with self.assertRaises(TooMany) as caught:
                    call(tables)
                self.assertIs(caught.exception.__class__, TooMany)
                self.assertEqual(caught.exception.most, 32)

    def even(self, starts, ends):
        """A TABLE from so many numbers near 0 to so many, outmost ones among them."""
        one = oracle.share_of({number: 1 for number in range(starts)})
        spread = [-50, 60] + list(range(starts, starts + ends - 2))
        other = {number: Fraction(1, 100) for number in spread[2:]}
        mass = starts - sum(other.values())
        drift = sum(range(starts)) - sum(number * part for number, part in other.items())
        other[60] = (drift + 50 * mass) / 110
        other[-50] = mass - other[60]
        return left_table(one, oracle.share_of(other))

    def test_32_paths_and_more(self):
        for starts, ends in [(4, 8), (5, 6), (1, 8), (8, 4), (6, 5)]:
            table = self.even(starts, ends)
            self.assertEqual(len(chained.chained((table,))), starts * ends)
            self.assertEqual(len(paths_of(chained.days_of((table,)))), starts * ends)
        for starts, ends in [(5, 7), (5, 8), (6, 6), (8, 5), (8, 8), (7, 5)]:
            self.too_many((self.even(starts, ends),))
        # Of two numbers each day four days have 16 PATHS; of three more than 32.
        two = ((0, 0, (1, 1)), (9, 9, (1, 1)))
        self.assertEqual(len(chained.chained((two,) * 3)), 16)
        three = ((0, 0, (1, 1)), (5, 5, (1, 1)), (9, 9, (1, 1)))
        self.assertEqual(len(chained.chained((three,) * 2)), 27)
        self.too_many((three,) * 3)

    def test_what_is_no_chain(self):
        wrong = samples.STRANGE + [
            "", "chain", 0, (), (STAY,) * 4, [STAY], [STAY, STAY], list((SPLIT, AGAIN)), samples.Row((STAY,)),
            (STAY, ()), ((), STAY), ((),), ((), ()), (STAY, (), STAY), STAY, SPLIT, (SPLIT, SPLIT), (AGAIN, SPLIT),
            (SPLIT, STAY), (AGAIN,) * 2, (SPLIT, scaled_table(AGAIN, 2)), (STAY, STAY, AGAIN), (SPLIT, AGAIN, AGAIN),
            (SPLIT, AGAIN[2:]), (SPLIT, ((-1, -1, (1, 4)), (1, 1, (3, 4)))), {0: STAY}, (SPLIT, AGAIN, None),
            (STAY, list(STAY)), (list(STAY), STAY),
        ]
        for thing in samples.NO_TABLES:
            wrong += [(thing,), (STAY, thing), (thing, STAY), (SPLIT, AGAIN, thing)]
        for thing in wrong:
            self.refuses(BadTable, "given", thing, chained.days_of, thing)
            self.refuses(BadTable, "given", thing, chained.chained, thing)

    def test_no_chain_ahead_of_too_many(self):
        big = self.even(8, 8)
        for tables in [(big, STAY), (STAY, big), (big, big), (big, ()), (big,) * 4, [big], (big, None)]:
            self.refuses(BadTable, "given", tables, chained.days_of, tables)
            self.refuses(BadTable, "given", tables, chained.chained, tables)

    def test_left_and_right(self):
        one = ((0, HALF), (1, HALF))
        other = ((-1, (1, 4)), (0, (1, 4)), (1, (1, 4)), (2, (1, 4)))
        for table in [left_table(one, other), right_table(one, other)]:
            days = chained.days_of((table,))
            self.assertEqual(days, ((0, 1), (-1, 0, 1, 2)))
            self.assertEqual(chained.table_of_day(days, chained.chained((table,)), 0), table)


if __name__ == "__main__":
    unittest.main()
