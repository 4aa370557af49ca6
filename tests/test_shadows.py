"""Points [14] to [16], and the section on shadows.py."""

import random
import unittest
from fractions import Fraction
from itertools import permutations

import oracle
import samples
from curtainsteps import shadows
from curtainsteps.errors import BadPaper, BadShare
from curtainsteps.shares import is_wider, put_together, taken_from
from curtainsteps.tables import left_table
from curtainsteps.windows import window

ONE, OTHER = samples.ONE, samples.OTHER
POINT = ((0, (1, 1)),)
# The SHADOW of POINT here has all of -1 and 1, and a part of -2 and 2.
AROUND = ((-2, (1, 1)), (-1, (1, 4)), (1, (1, 4)), (2, (1, 1)), (5, (9, 1)))
CAST = ((-2, (1, 4)), (-1, (1, 4)), (1, (1, 4)), (2, (1, 4)))
TABLE = tuple((0, number, weight) for number, weight in CAST)
# Two that keep apart, but for a number between them of which something is left.
TWO = ((-5, (1, 1)), (5, (1, 1)))
MIDDLE = ((-10, (2, 1)), (0, (3, 1)), (10, (2, 1)))
TWO_TABLE = ((-5, -10, (1, 2)), (-5, 0, (1, 2)), (5, 0, (1, 2)), (5, 10, (1, 2)))
BIG = 10 ** 40 + 139


def by_order(one, other, order):
    """What the pairs of one take from other one after another; None if a WINDOW is lacking."""
    left, taken = other, ()
    for place in order:
        target = window(left, *one[place])
        if target is None:
            return None
        taken, left = put_together(taken, target), taken_from(left, target)
    return taken


def shadow_holds(one, other, table, spans):
    """A PAPER with "shadow", in the words of point [16]."""
    if not oracle.is_table(table) or oracle.start(table) != one or not oracle.within(oracle.end(table), other):
        return False
    end = dict(oracle.end(table))
    flat = [mark for span in spans for mark in span]
    if any(low >= high for low, high in spans) or flat != sorted(flat):
        return False
    for low, high in spans:
        if any(low < number < high and end.get(number) != weight for number, weight in other):
            return False
    for x, _ in one:
        reached = [y for start, y, _ in table if start == x]
        inside = any(low <= min(x, *reached) and max(x, *reached) <= high for low, high in spans)
        if not inside and reached != [x]:
            return False
    return True


def bar_holds(one, other, prices, gains):
    """A PAPER with "bar", in the words of point [16]."""
    if len(prices) != len(one) or len(gains) != len(one):
        return False
    whole = sum(oracle.worth(price) * oracle.worth(weight) for price, (_, weight) in zip(prices, one))
    for y, weight in other:
        sums = [oracle.worth(u) + oracle.worth(h) * (y - x) for u, h, (x, _) in zip(prices, gains, one)]
        whole -= max([Fraction(0), *sums]) * oracle.worth(weight)
    return whole > 0


def drawn_cases(many, seed):
    """Pairs of SHARES, with and without a SHADOW."""
    chance = random.Random(seed)
    cases = []
    for _ in range(many):
        one = samples.drawn_share(chance, 5)
        wide = samples.spread_share(chance, one, chance.randint(0, 8))
        more = samples.drawn_share(chance, 4)
        both = {number: oracle.worth(weight) for number, weight in wide}
        for number, weight in more:
            if number in both or len(both) < 8:
                both[number] = both.get(number, 0) + oracle.worth(weight)
        cases.append((one, oracle.share_of(both)))
        cases.append((one, samples.drawn_share(chance)))
        cases.append((wide, one))
    return cases


class IsPart(samples.Case):
    def test_plain_values(self):
        for one, other, answer in [
            ((), (), True), ((), POINT, True), (POINT, (), False), (POINT, POINT, True), (CAST, AROUND, True),
            (AROUND, CAST, False), (((0, (1, 2)),), POINT, True), (((0, (BIG + 1, BIG)),), POINT, False),
            (((0, (BIG, BIG + 1)),), POINT, True), (((1, (1, 2)),), POINT, False),
            (((-2, (1, 1)), (2, (2, 1))), AROUND, False), (((-2, (1, 1)), (2, (1, 1))), AROUND, True),
            (((-2, (1, 9)), (0, (1, 9))), AROUND, False), (POINT, ((-1, (1, 1)), (1, (1, 1))), False),
        ]:
            self.same(answer, shadows.is_part, one, other)

    def test_by_the_words(self):
        chance = random.Random(1)
        answers = []
        for _ in range(300):
            other = samples.drawn_share(chance, 4, 2)
            one = samples.drawn_share(chance, 3, 2)
            if chance.random() < 0.6:
                numbers = chance.sample(other, chance.randint(0, len(other)))
                one = tuple(sorted((n, oracle.told(oracle.worth(w) * chance.choice([1, Fraction(1, 3)])))
                                   for n, w in numbers))
            answers.append(oracle.within(one, other))
            self.same(answers[-1], shadows.is_part, one, other)
        self.assertGreater(answers.count(True), 50)
        self.assertGreater(answers.count(False), 50)


class Shadow(samples.Case):
    def test_plain_values(self):
        for one, other, cast in [
            ((), (), ()), ((), POINT, ()), (POINT, (), None), (POINT, POINT, POINT), (POINT, AROUND, CAST),
            (POINT, ((0, (5, 2)),), POINT), (POINT, ((0, (1, 2)),), None), (POINT, ((1, (5, 1)),), None),
            (POINT, ((-1, (1, 3)), (0, (9, 1)), (1, (1, 3))), POINT),
            (POINT, ((-1, (1, 2)), (1, (1, 2))), ((-1, (1, 2)), (1, (1, 2)))),
            (POINT, ((-1, (1, 2)), (1, (1, 3))), None),
            (((0, (2, BIG)),), ((-1, (1, BIG)), (1, (2, BIG))), ((-1, (1, BIG)), (1, (1, BIG)))),
            (TWO, MIDDLE, ((-10, (1, 2)), (0, (1, 1)), (10, (1, 2)))),
            (((-100, (1, 1)), (100, (1, 1))), ((-100, (1, 1)), (100, (2, 1))), ((-100, (1, 1)), (100, (1, 1)))),
            (((-100, (1, 1)),), ((-99, (9, 1)), (100, (9, 1))), None), (OTHER, ONE, None), (ONE, OTHER, OTHER),
        ]:
            self.same(cast, shadows.shadow, one, other)

    def test_by_each_order(self):
        there = 0
        for one, other in drawn_cases(25, 2):
            cast = shadows.shadow(one, other)
            self.same(cast, shadows.shadow, one, other)
            orders = list(permutations(range(len(one))))
            for order in random.Random(3).sample(orders, min(8, len(orders))):
                self.assertEqual(by_order(one, other, order), cast)
            if cast is not None:
                there += 1
                self.assertTrue(oracle.within(cast, other))
                self.assertTrue(oracle.wider(one, cast))
        self.assertTrue(20 < there < 60)

    def test_against_all_parts(self):
        chance = random.Random(4)
        there = lacking = 0
        for _ in range(150):
            numbers = chance.sample(range(-3, 4), chance.randint(3, 4))
            other = oracle.share_of({number: chance.randint(1, 4) for number in numbers})
            numbers = chance.sample(range(-2, 3), chance.randint(1, 2))
            one = oracle.share_of({number: chance.randint(1, 3) for number in numbers})
            cast = shadows.shadow(one, other)
            wider = [part for part in oracle.parts_of(other, 1) if oracle.wider(one, part)]
            for part in wider:
                self.assertIsNotNone(cast)
                self.assertTrue(oracle.wider(cast, part))
            there += len(wider) > 1
            lacking += cast is None
        self.assertGreater(there, 10)
        self.assertGreater(lacking, 30)

    def test_of_all_that_is_wider(self):
        for one, other in samples.drawn_pairs(30, 5):
            self.same(other, shadows.shadow, one, other)
            for many in range(len(one) + 1):
                starts = [x for x, _ in one[:many]]
                steps = tuple(step for step in left_table(one, other) if step[0] in starts)
                self.same(oracle.end(steps), shadows.shadow, one[:many], other)

    def test_two_put_together(self):
        chance = random.Random(6)
        there = 0
        for one, other in drawn_cases(40, 7):
            cast = shadows.shadow(one, other)
            first = {number: oracle.worth(weight) * Fraction(chance.randint(0, 3), 3) for number, weight in one}
            first = oracle.share_of(first)
            second = taken_from(one, first)
            ahead = shadows.shadow(first, other)
            behind = None if ahead is None else shadows.shadow(second, taken_from(other, ahead))
            if cast is None:
                self.assertIsNone(behind)
            else:
                there += 1
                self.assertEqual(put_together(ahead, behind), cast)
        self.assertGreater(there, 30)


class Papers(samples.Case):
    def proves(self, one, other):
        """The paper holds, by the words and by the check; its first word."""
        paper = shadows.shadow_paper(one, other)
        self.same(paper, shadows.shadow_paper, one, other)
        self.assertEqual((paper.__class__, len(paper)), (tuple, 3))
        cast = shadows.shadow(one, other)
        if paper[0] == "shadow":
            self.assertTrue(shadow_holds(one, other, *paper[1:]), (one, other))
            self.assertEqual(oracle.end(paper[1]), cast)
        else:
            self.assertEqual(paper[0], "bar")
            self.assertTrue(bar_holds(one, other, *paper[1:]), (one, other))
            self.assertIsNone(cast)
        self.same(paper[0], shadows.check_shadow, one, other, paper)
        return paper[0]

    def test_both_sorts(self):
        words = [self.proves(one, other) for one, other in drawn_cases(60, 8)]
        self.assertGreater(words.count("shadow"), 50)
        self.assertGreater(words.count("bar"), 50)
        for one, other in samples.drawn_pairs(20, 9, 8):
            self.assertEqual(self.proves(one, other), "shadow")

    def test_plain_values(self):
        self.same(("shadow", (), ()), shadows.shadow_paper, (), ())
        self.same(("shadow", (), ()), shadows.shadow_paper, (), AROUND)
        self.same(("shadow", ((0, 0, (1, 1)),), ()), shadows.shadow_paper, POINT, ((0, (5, 2)),))
        self.same(("shadow", TABLE, ((-2, 2),)), shadows.shadow_paper, POINT, AROUND)
        self.same(("shadow", TWO_TABLE, ((-10, 0), (0, 10))), shadows.shadow_paper, TWO, MIDDLE)
        for one, other in [
            (POINT, ()), (AROUND, ()), (POINT, ((0, (1, 2)),)), (POINT, ((1, (5, 1)),)), (OTHER, ONE),
            (((0, (BIG, BIG - 1)),), POINT), (((-100, (1, BIG)),), ((-99, (9, 1)), (100, (9, 1)))),
        ]:
            self.assertEqual(self.proves(one, other), "bar")

    def test_nothing(self):
        self.same("shadow", shadows.check_shadow, (), (), ("shadow", (), ()))
        self.same("shadow", shadows.check_shadow, (), AROUND, ("shadow", (), ((-2, -1), (1, 2))))
        self.refuses_part(BadPaper, "bar", shadows.check_shadow, (), (), ("bar", (), ()))
        self.refuses_part(BadPaper, "bar", shadows.check_shadow, (), AROUND, ("bar", (), ()))
        # Strictly within there is something, and the end has none of it.
        self.refuses_part(BadPaper, "shadow", shadows.check_shadow, (), AROUND, ("shadow", (), ((-2, 1),)))

    def test_form(self):
        for paper in samples.STRANGE + [
            "", "shadow", "bar", 0, (), ("shadow",), ("bar",), ("shadow", TABLE), ("shadow", TABLE, (), ()),
            ("bar", ((1, 1),)), ("bar", (), (), ()), ("Shadow", TABLE, ((-2, 2),)), ("table", TABLE, ((-2, 2),)),
            ["shadow", TABLE, ((-2, 2),)], (b"bar", (), ()), (None, (), ()), (TABLE, ((-2, 2),), "shadow"),
            (samples.Word("shadow"), TABLE, ((-2, 2),)), samples.Row(("shadow", TABLE, ((-2, 2),))),
            (samples.Agreeing(), TABLE, ((-2, 2),)), (samples.namesake("str"), (), ()), (True, (), ()), ("", (), ()),
        ]:
            self.refuses_part(BadPaper, "form", shadows.check_shadow, POINT, AROUND, paper)
            self.refuses_part(BadPaper, "form", shadows.check_shadow, POINT, (), paper)

    def test_tables_otherwise(self):
        wide = ((0, -2, (1, 2)), (0, 2, (1, 2)))
        for table in samples.NO_TABLES + [
            (), TABLE[1:], TWO_TABLE, wide, ((0, 0, (1, 1)),), ((0, -1, (1, 2)), (0, 1, (1, 2))),
            tuple((x, y, (top, bottom * 2)) for x, y, (top, bottom) in TABLE),
            tuple((x, y, (top * 2, bottom)) for x, y, (top, bottom) in TABLE),
        ]:
            self.refuses_part(BadPaper, "shadow", shadows.check_shadow, POINT, AROUND, ("shadow", table, ((-2, 2),)))
        # Right, but for another START.
        stays = ((0, (5, 2)),)
        self.same("shadow", shadows.check_shadow, POINT, stays, ("shadow", ((0, 0, (1, 1)),), ()))
        for table in [(), ((0, 0, (1, 2)),), ((0, 0, (2, 1)),), ((0, 0, (BIG, BIG + 1)),)]:
            self.refuses_part(BadPaper, "shadow", shadows.check_shadow, POINT, stays, ("shadow", table, ()))
        for other in [AROUND, ()]:
            self.refuses_part(BadPaper, "shadow", shadows.check_shadow, POINT, other, ("shadow", (), ()))
        # Right for shares of which other has more: there the END is not within.
        lacking = ((-2, (1, 4)), (-1, (1, 4)), (1, (1, 4)), (2, (BIG, 4 * BIG + 1)))
        self.refuses_part(BadPaper, "shadow", shadows.check_shadow, POINT, lacking, ("shadow", TABLE, ((-2, 2),)))
        self.refuses_part(BadPaper, "shadow", shadows.check_shadow, POINT, CAST[1:], ("shadow", TABLE, ((-2, 2),)))

    def test_spans_of_one(self):
        for spans in [((-2, 2),), ((-3, -2), (-2, 2)), ((-2, 2), (2, 5)), ((-100, -50), (-50, -2), (-2, 2), (2, 5)),
                      ((-2, 2), (90, 100)), ((-2, 2), (5, 6), (6, 7), (8, 100))]:
            self.same("shadow", shadows.check_shadow, POINT, AROUND, ("shadow", TABLE, spans))
        for spans in [
            (), ((-2, 1),), ((-1, 2),), ((-1, 1),), ((-3, 2),), ((-2, 3),), ((-2, 6),), ((-2, 0), (0, 2)),
            ((-2, -1), (-1, 1), (1, 2)), ((2, -2),), ((-2, 2), (2, 2)), ((-2, -2), (-2, 2)), ((-2, 2), (-2, 2)),
            ((2, 5), (-2, 2)), ((-2, 2), (1, 5)), ((-2, 2), (4, 6)), ((-3, -1), (-2, 2)), ((2, 2),), ((5, 5),),
        ]:
            self.refuses_part(BadPaper, "shadow", shadows.check_shadow, POINT, AROUND, ("shadow", TABLE, spans))

    def test_what_are_no_spans(self):
        for spans in samples.STRANGE + [
            "", 0, (-2, 2), ((-2, 2), None), ((-2,),), ((-2, 2, 3),), ((-2, 2), ()), [(-2, 2)], ([-2, 2],), ("ab",),
            (("-2", "2"),), ((-2, 2), (True, 5)), ((-2, 2), (2, 101)), ((-101, -2), (-2, 2)), ((-2, None),),
            ((None, 2),), ((-2, 2), (5, 10 ** 30)), samples.Row(((-2, 2),)), (samples.Row((-2, 2)),),
            ((samples.Whole(-2), 2),), ((-2, samples.Agreeing()),), ((-2, 2), (3, samples.Whole(4))),
        ]:
            self.refuses_part(BadPaper, "shadow", shadows.check_shadow, POINT, AROUND, ("shadow", TABLE, spans))

    def test_spans_of_two(self):
        for spans in [((-10, 0), (0, 10)), ((-100, -10), (-10, 0), (0, 10), (10, 99))]:
            self.same("shadow", shadows.check_shadow, TWO, MIDDLE, ("shadow", TWO_TABLE, spans))
        # Together they have something left within; one alone lacks a step; some do not ascend.
        for spans in [
            ((-10, 10),), ((-10, 0),), ((0, 10),), ((0, 10), (-10, 0)), ((-10, 0), (-1, 10)), ((-10, 1), (1, 10)),
        ]:
            self.refuses_part(BadPaper, "shadow", shadows.check_shadow, TWO, MIDDLE, ("shadow", TWO_TABLE, spans))
        # Where nothing is left between them they may be one.
        full = ((-10, (2, 1)), (0, (1, 1)), (10, (2, 1)))
        for spans in [((-10, 10),), ((-10, 0), (0, 10))]:
            self.same("shadow", shadows.check_shadow, TWO, full, ("shadow", TWO_TABLE, spans))

    def test_steps_that_stay(self):
        one, other = ((0, (1, 1)), (3, (1, 2)), (9, (1, 1))), ((-1, (3, 1)), (1, (3, 1)), (3, (1, 1)), (9, (1, 1)))
        table = ((0, -1, (1, 2)), (0, 1, (1, 2)), (3, 3, (1, 2)), (9, 9, (1, 1)))
        self.same("shadow", shadows.check_shadow, one, other, ("shadow", table, ((-1, 1),)))
        self.same("shadow", shadows.check_shadow, one, other, ("shadow", table, ((-1, 1), (3, 9))))
        self.refuses_part(BadPaper, "shadow", shadows.check_shadow, one, other, ("shadow", table, ()))
        self.refuses_part(BadPaper, "shadow", shadows.check_shadow, one, other, ("shadow", table, ((-1, 1), (1, 9))))
        # One that goes from itself to both sides, and to itself, does not stay.
        point, near = ((0, (1, 1)),), ((-1, (1, 4)), (0, (1, 2)), (1, (1, 4)))
        table = tuple((0, y, weight) for y, weight in near)
        self.refuses_part(BadPaper, "shadow", shadows.check_shadow, point, near, ("shadow", table, ()))
        self.same("shadow", shadows.check_shadow, point, near, ("shadow", table, ((-1, 1),)))
        more = ((-1, (1, 4)), (0, (2, 3)), (1, (1, 4)))
        self.refuses_part(BadPaper, "shadow", shadows.check_shadow, point, more, ("shadow", table, ((-1, 1),)))

    def test_bars(self):
        one, other = POINT, ((-1, (1, 2)), (1, (1, 3)))
        for prices, gains, answer in [
            # Of steps to 1 more is asked than to -1: what lies there counts double.
            (((1, 1),), ((1, 1),), True), (((7, 1),), ((7, 1),), True), (((1, 10 ** 30),), ((1, 10 ** 30),), True),
            (((1, 1),), ((0, 1),), True), (((1, 1),), ((-1, 1),), False), (((1, 1),), ((-2, 1),), False),
            (((0, 1),), ((0, 1),), False), (((0, 1),), ((1, 1),), False), (((-1, 1),), ((0, 1),), False),
            (((-1, 1),), ((5, 1),), False),
        ]:
            self.assertIs(bar_holds(one, other, prices, gains), answer)
            if answer:
                self.same("bar", shadows.check_shadow, one, other, ("bar", prices, gains))
            else:
                self.refuses_part(BadPaper, "bar", shadows.check_shadow, one, other, ("bar", prices, gains))
        # All that is wanted is just there: both sums are equal, whatever is told.
        enough = ((-1, (1, 2)), (1, (1, 2)))
        for prices, gains in [(((1, 1),), ((1, 1),)), (((1, 1),), ((0, 1),)), (((1, 1),), ((-1, 1),))]:
            self.refuses_part(BadPaper, "bar", shadows.check_shadow, one, enough, ("bar", prices, gains))
            hardly = ((-1, (1, 2)), (1, (BIG, 2 * BIG + 1)))
            if gains[0][0] >= 0:
                self.same("bar", shadows.check_shadow, one, hardly, ("bar", prices, gains))

    def test_bars_by_the_words(self):
        chance = random.Random(10)
        answers = []
        for one, other in drawn_cases(40, 11):
            for _ in range(4):
                prices = tuple(oracle.told(Fraction(chance.randint(-1, 9), chance.randint(1, 3))) for _ in one)
                gains = tuple(oracle.told(Fraction(chance.randint(-2, 2), chance.randint(1, 3))) for _ in one)
                answers.append(bar_holds(one, other, prices, gains))
                if answers[-1]:
                    self.assertIsNone(shadows.shadow(one, other))
                    self.same("bar", shadows.check_shadow, one, other, ("bar", prices, gains))
                else:
                    self.refuses_part(BadPaper, "bar", shadows.check_shadow, one, other, ("bar", prices, gains))
        self.assertGreater(answers.count(True), 15)
        self.assertGreater(answers.count(False), 15)

    def test_what_are_no_bars(self):
        good = ((1, 1),)
        wrong = samples.STRANGE + [
            (), ((1, 1), (1, 1)), [(1, 1)], (1, 1), "", 0, samples.Row(good),
            *[(thing,) for thing in samples.NO_FRACTIONS],
        ]
        for other in [(), ((-1, (1, 2)), (1, (1, 3)))]:
            self.same("bar", shadows.check_shadow, POINT, other, ("bar", good, good))
            for thing in wrong:
                self.refuses_part(BadPaper, "bar", shadows.check_shadow, POINT, other, ("bar", thing, good))
                self.refuses_part(BadPaper, "bar", shadows.check_shadow, POINT, other, ("bar", good, thing))

    def test_never_one_of_each_sort(self):
        for one, other in drawn_cases(20, 12):
            word, first, second = shadows.shadow_paper(one, other)
            contrary = {"shadow": "bar", "bar": "shadow"}[word]
            self.refuses_part(BadPaper, contrary, shadows.check_shadow, one, other, (contrary, first, second))
            if word == "bar":
                # One is its own SHADOW in itself.
                self.refuses_part(BadPaper, "bar", shadows.check_shadow, one, one, ("bar", first, second))


class Arguments(samples.Case):
    def test_what_are_no_shares(self):
        for thing in samples.NO_SHARES:
            for call in [shadows.is_part, shadows.shadow, shadows.shadow_paper]:
                self.refuses(BadShare, "given", thing, call, thing, OTHER)
                self.refuses(BadShare, "given", thing, call, thing, [None])
                self.refuses(BadShare, "given", thing, call, ONE, thing)
                self.refuses(BadShare, "given", thing, call, (), thing)
            self.refuses(BadShare, "given", thing, shadows.check_shadow, thing, [None], None)
            self.refuses(BadShare, "given", thing, shadows.check_shadow, thing, OTHER, ("bar", (), ()))
            self.refuses(BadShare, "given", thing, shadows.check_shadow, ONE, thing, None)

    def test_others_need_not_be_wider(self):
        for one, other in [(OTHER, ONE), (POINT, ()), ((), POINT), (POINT, AROUND)]:
            for call in [shadows.is_part, shadows.shadow, shadows.shadow_paper]:
                self.assertEqual(call(one, other), call(one, other))
        self.assertFalse(is_wider(POINT, AROUND))


if __name__ == "__main__":
    unittest.main()
