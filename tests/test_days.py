"""Points [18] and [19], and the section on days.py."""

import random
import unittest
from fractions import Fraction
from itertools import product

import oracle
import samples
from curtainsteps import days
from curtainsteps.errors import BadDays

HALF = (1, 2)
CALLS = [days.need_days, days.paths_of, days.beginnings, days.open_numbers, days.fair_share]
TWO = ((0,), (-1, 0, 1))
THREE = ((0,), (-2, 1), (-3, 0, 4))
FOUR = ((0, 1), (0, 1), (0, 1), (0, 1))


def open_by_words(told):
    """Point [19] in its own words."""
    opened = [told[-1]]
    for day in told[-2::-1]:
        opened.insert(0, tuple(x for x in day if any(y <= x for y in opened[0]) and any(y >= x for y in opened[0])))
    return tuple(opened)


def drawn(many, seed, reach=6):
    """DAYS of all lengths."""
    chance = random.Random(seed)
    found = []
    while len(found) < many:
        sizes = [chance.randint(1, 8) for _ in range(chance.randint(1, 4))]
        paths = 1
        for size in sizes:
            paths *= size
        if paths <= 32:
            found.append(samples.drawn_days(chance, sizes, reach))
    return found


class NeedDays(samples.Case):
    def test_the_thing_itself(self):
        for thing in [
            ((0,),), TWO, THREE, FOUR, ((-100, 100),), (tuple(range(8)),), ((5,),) * 4, ((0, 1, 2, 3), tuple(range(8))),
            (tuple(range(8)), (0, 1), (0, 1)), ((1,), (2,), (0, 3), (4, 5, 6)), ((-100,), (100,)),
            ((0, 1), (0, 1), (0, 1), (0, 1, 2, 3)), (tuple(range(8)), (0,), tuple(range(4)), (1,)), ((0, 1, 2),) * 3,
        ]:
            self.assertIs(days.need_days(thing), thing)

    def test_one_more_than_there_may_be(self):
        for thing in [
            ((0,),) * 5, (tuple(range(9)),), ((0,), tuple(range(9))), ((0, 1),) * 5,
            ((0, 1, 2), tuple(range(8)), (0, 1)),
            (tuple(range(3)), tuple(range(4)), tuple(range(3))), (tuple(range(5)), tuple(range(7))), ((0, 1, 2),) * 4,
            ((0, 1), (0, 1), (0, 1), (0, 1, 2, 3, 4)), ((101,),), ((-101, 0),), ((0,), (-5, 101)),
        ]:
            self.refuses(BadDays, "given", thing, days.need_days, thing)

    def test_what_are_none(self):
        for thing in samples.NO_DAYS:
            for call in CALLS:
                self.refuses(BadDays, "given", thing, call, thing)
            self.refuses(BadDays, "given", thing, days.is_fair, thing, ((1, 1),))
            self.refuses(BadDays, "given", thing, days.is_fair, thing, None)


class Paths(samples.Case):
    def test_plain_values(self):
        self.same(((0, -1), (0, 0), (0, 1)), days.paths_of, TWO)
        self.same(((0,),), days.beginnings, TWO)
        self.same(((3,),), days.paths_of, ((3,),))
        self.same(((-2,), (7,)), days.paths_of, ((-2, 7),))
        self.same((), days.beginnings, ((-2, 7),))
        self.same((), days.beginnings, ((3,),))
        self.same(((0, -2, -3), (0, -2, 0), (0, -2, 4), (0, 1, -3), (0, 1, 0), (0, 1, 4)), days.paths_of, THREE)
        self.same(((0,), (0, -2), (0, 1)), days.beginnings, THREE)
        self.same(((0,), (0, 0), (0, 1), (1,), (1, 0), (1, 1)), days.beginnings, ((0, 1), (0, 1), (5,)))
        self.assertEqual(len(days.beginnings(FOUR)), 14)
        self.assertEqual(len(days.paths_of(FOUR)), 16)
        self.assertEqual(len(days.beginnings((tuple(range(8)), (0, 1, 2, 3), (9,), (9,)))), 72)

    def test_by_the_words(self):
        for told in drawn(80, 1):
            paths = days.paths_of(told)
            self.same(tuple(product(*told)), days.paths_of, told)
            self.assertEqual(list(paths), sorted(paths))
            begun = tuple(oracle.beginnings(told))
            self.same(begun, days.beginnings, told)
            self.assertEqual(list(begun), sorted(set(begun)))


class Open(samples.Case):
    def test_plain_values(self):
        self.same(((0,), (-1, 0, 1)), days.open_numbers, TWO)
        self.same(((5, 9),), days.open_numbers, ((5, 9),))
        # At the bounds they are open.
        self.same(((-1, 0, 1), (-1, 1)), days.open_numbers, ((-2, -1, 0, 1, 2), (-1, 1)))
        self.same(((3,), (3,)), days.open_numbers, ((2, 3, 4), (3,)))
        self.same(((), (1,)), days.open_numbers, ((0,), (1,)))
        self.same(((), (), (5,)), days.open_numbers, ((0,), (0,), (5,)))
        # A day between that is not open on one side closes the day ahead.
        self.same(((), (3,), (2, 4)), days.open_numbers, ((0,), (-3, 3), (2, 4)))
        self.same(((3,), (3,), (2, 4)), days.open_numbers, ((0, 3), (-3, 3), (2, 4)))
        self.same(((), (), (1,), (1,)), days.open_numbers, ((1,), (0, 2), (1,), (1,)))

    def test_by_the_words(self):
        closed = 0
        for told in drawn(200, 2) + drawn(100, 3, 4):
            opened = open_by_words(told)
            self.same(opened, days.open_numbers, told)
            closed += opened[0] == ()
        self.assertTrue(50 < closed < 250)


class IsFair(samples.Case):
    def test_plain_values(self):
        for told, fair, answer in [
            (((3,),), ((1, 1),), True), (((3, 4),), ((1, 3), (2, 3)), True), (((3, 4),), ((0, 1), (1, 1)), True),
            (((3, 4),), ((1, 3), (1, 3)), False), (((3, 4),), ((-1, 1), (2, 1)), False),
            (TWO, (HALF, (0, 1), HALF), True), (TWO, ((0, 1), (1, 1), (0, 1)), True),
            (TWO, ((1, 4), HALF, (1, 4)), True), (TWO, (HALF, HALF, (0, 1)), False),
            (TWO, ((1, 3), (1, 3), (1, 4)), False), (TWO, ((1, 1), (-1, 1), (1, 1)), False),
            (TWO, ((1, 2), (1, 2), (1, 2)), False), (TWO, ((1, 4), (1, 4), (1, 4)), False),
            (((0,), (1,)), ((1, 1),), False), (((1,), (1,), (1,), (1,)), ((1, 1),), True),
        ]:
            self.same(answer, days.is_fair, told, fair)

    def test_three_days(self):
        # A third goes to -2, and two thirds of that to -3; a quarter of what goes to 1 goes on to 4.
        fair = ((2, 9), (1, 9), (0, 1), (0, 1), (1, 2), (1, 6))
        self.same(True, days.is_fair, THREE, fair)
        # Right on the first day alone, and on the whole alone.
        self.same(False, days.is_fair, THREE, ((1, 9), (2, 9), (0, 1), (0, 1), (1, 2), (1, 6)))
        self.same(False, days.is_fair, THREE, ((2, 9), (1, 9), (0, 1), (0, 1), (2, 3), (0, 1)))
        self.same(False, days.is_fair, THREE, ((1, 9), (2, 9), (0, 1), (1, 36), (17, 36), (1, 6)))

    def test_what_are_none(self):
        for told, fair in [
            (TWO, (HALF, (0, 1), HALF)), (((3,),), ((1, 1),)),
            (THREE, ((2, 9), (1, 9), (0, 1), (0, 1), (1, 2), (1, 6))),
        ]:
            self.same(True, days.is_fair, told, fair)
            for thing in samples.no_fairs(fair):
                ahead = repr(thing)
                self.same(False, days.is_fair, told, thing)
                self.assertEqual(repr(thing), ahead)
        self.same(False, days.is_fair, TWO, (HALF, (0, 2), HALF))
        self.same(False, days.is_fair, TWO, ((2, 4), (0, 1), HALF))

    def test_by_the_words(self):
        chance = random.Random(4)
        answers = []
        for told in [TWO, THREE, ((0, 1), (-2, 0, 3)), ((0,), (-1, 2), (-3, 3), (-4, 4))] + drawn(60, 5, 4):
            corners = oracle.corners(oracle.fair_rows(told)) if len(days.paths_of(told)) < 9 else []
            for _ in range(3):
                if corners:
                    parts = [Fraction(chance.randint(1, 5)) for _ in corners]
                    mixed = [sum(p * c for p, c in zip(parts, row)) / sum(parts) for row in zip(*corners)]
                    fair = tuple(map(oracle.told, mixed))
                    self.same(True, days.is_fair, told, fair)
                    for at in range(len(fair)):
                        for other in range(at):
                            moved = list(fair)
                            moved[at] = oracle.told(oracle.worth(fair[at]) + Fraction(1, 10 ** 9))
                            moved[other] = oracle.told(oracle.worth(fair[other]) - Fraction(1, 10 ** 9))
                            answers.append(oracle.is_fair(told, moved))
                            self.assertIs(days.is_fair(told, tuple(moved)), answers[-1])
        self.assertGreater(answers.count(False), 100)


class FairShare(samples.Case):
    def test_plain_values(self):
        self.same(((1, 1),), days.fair_share, ((3,),))
        self.same(None, days.fair_share, ((0,), (1,)))
        self.same(None, days.fair_share, ((0,), (1, 2)))
        self.same(None, days.fair_share, ((0,), (-2, -1)))
        self.same(None, days.fair_share, ((0,), (-3, 3), (2, 4)))
        self.same(((1, 2), (1, 2)), days.fair_share, ((0,), (-1, 1)))
        self.same(((3, 4), (1, 4)), days.fair_share, ((0,), (-1, 3)))
        self.same(((1, 1),), days.fair_share, ((1,),) * 4)

    def test_where_some_first_number_is_open(self):
        there = 0
        for told in drawn(150, 6) + drawn(80, 7, 4):
            fair = days.fair_share(told)
            self.same(fair, days.fair_share, told)
            if open_by_words(told)[0] == ():
                self.assertIsNone(fair)
                if len(days.paths_of(told)) < 9:
                    self.assertEqual(oracle.corners(oracle.fair_rows(told)), [])
            else:
                there += 1
                self.assertIs(fair.__class__, tuple)
                self.assertTrue(oracle.is_fair(told, fair), told)
                self.same(True, days.is_fair, told, fair)
        self.assertTrue(50 < there < 200)


if __name__ == "__main__":
    unittest.main()
