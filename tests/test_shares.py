"""Points [1] to [4], and the section on shares.py."""

import random
import unittest

import oracle
import samples
from curtainsteps import shares
from curtainsteps.errors import BadNumber, BadPaper, BadShare, TooMany

ONE = ((0, (1, 1)),)
HALVES = ((-1, (1, 2)), (1, (1, 2)))
TABLE = ((0, -1, (1, 2)), (0, 1, (1, 2)))
BIG = 10 ** 20 + 39
SHARES = [
    (), ONE, HALVES, ((-100, (1, 3)), (100, (2, 3))), ((5, (BIG, 7)), (6, (1, BIG))),
    ((-100, (1, 1)), (-99, (1, 2)), (-1, (7, 2)), (0, (5, 3)), (1, (1, 9)), (50, (2, 1)), (99, (3, 1)), (100, (1, 1))),
    ((-7, (10 ** 59, 10 ** 59 + 1)), (3, (1, 4))),
]


class Needs(samples.Case):
    def test_need_share_gives_the_thing_itself(self):
        for share in SHARES:
            self.assertIs(shares.need_share(share), share)
        eight = samples.NINE[1:]
        self.assertIs(shares.need_share(eight), eight)

    def test_every_function_refuses_what_is_no_share(self):
        for thing in samples.NO_SHARES:
            self.refuses(BadShare, "given", thing, shares.need_share, thing)
            self.refuses(BadShare, "given", thing, shares.total, thing)
            self.refuses(BadShare, "given", thing, shares.moment, thing)
            self.refuses(BadShare, "given", thing, shares.rest_above, thing, 0)
            self.refuses(BadShare, "given", thing, shares.check_wider, thing, ONE, ("total",))
            self.refuses(BadShare, "given", thing, shares.check_wider, ONE, thing, ("total",))
            for call in [shares.is_wider, shares.put_together, shares.taken_from]:
                self.refuses(BadShare, "given", thing, call, thing, ONE)
                self.refuses(BadShare, "given", thing, call, ONE, thing)

    def test_the_first_wrong_argument_counts(self):
        for thing in samples.NO_SHARES:
            for call in [shares.is_wider, shares.put_together, shares.taken_from]:
                self.refuses(BadShare, "given", thing, call, thing, [None])
            self.refuses(BadShare, "given", thing, shares.rest_above, thing, 101)
            self.refuses(BadShare, "given", thing, shares.check_wider, thing, [None], None)
            self.refuses(BadShare, "given", thing, shares.check_wider, ONE, thing, None)


class Sums(samples.Case):
    def test_plain_values(self):
        share = ((-2, (1, 2)), (0, (1, 3)), (4, (1, 6)))
        self.same((1, 1), shares.total, share)
        self.same((-1, 3), shares.moment, share)
        self.same((2, 3), shares.rest_above, share, 0)
        self.same((0, 1), shares.rest_above, share, 4)
        self.same((1, 6), shares.rest_above, share, 3)
        self.same((5, 3), shares.rest_above, share, -2)
        self.same((8, 3), shares.rest_above, share, -3)

    def test_nothing(self):
        self.same((0, 1), shares.total, ())
        self.same((0, 1), shares.moment, ())
        for mark in [-100, 0, 100]:
            self.same((0, 1), shares.rest_above, (), mark)
        self.same((0, 1), shares.moment, HALVES)
        self.same((0, 1), shares.rest_above, ((100, (1, 1)),), 100)

    def test_against_the_words(self):
        chance = random.Random(1)
        for share in SHARES + [samples.drawn_share(chance) for _ in range(60)]:
            self.same(oracle.told(oracle.total(share)), shares.total, share)
            self.same(oracle.told(oracle.moment(share)), shares.moment, share)
            for mark in [-100, -99, -5, -1, 0, 1, 2, 6, 99, 100]:
                self.same(oracle.told(oracle.rest(share, mark)), shares.rest_above, share, mark)

    def test_marks_that_are_no_numbers(self):
        for thing in samples.NO_NUMBERS:
            self.refuses(BadNumber, "given", thing, shares.rest_above, ONE, thing)


class Wider(samples.Case):
    def test_plain_values(self):
        self.same(True, shares.is_wider, ONE, HALVES)
        self.same(False, shares.is_wider, HALVES, ONE)
        self.same(False, shares.is_wider, ONE, ((1, (1, 1)),))
        self.same(False, shares.is_wider, ONE, ((0, (1, 2)),))
        self.same(False, shares.is_wider, (), ONE)
        self.same(False, shares.is_wider, ((-1, (1, 1)), (1, (1, 1))), ((-2, (1, 3)), (0, (1, 3)), (2, (1, 3))))

    def test_each_is_wider_than_itself(self):
        for share in SHARES:
            self.same(True, shares.is_wider, share, share)

    def test_a_mark_at_a_number_of_the_other_one_only(self):
        one = ((-4, (1, 2)), (0, (1, 1)), (4, (1, 2)))
        other = ((-3, (1, 2)), (-1, (1, 2)), (1, (1, 2)), (3, (1, 2)))
        self.same(False, shares.is_wider, one, other)
        self.assertEqual([mark for mark, _ in one if mark in oracle.lesser_marks(one, other)], [])

    def test_greatest_and_least_numbers(self):
        self.same(True, shares.is_wider, ONE, ((-100, (1, 2)), (100, (1, 2))))
        self.same(False, shares.is_wider, ((-100, (1, 2)), (100, (1, 2))), ONE)

    def test_against_the_words(self):
        chance = random.Random(2)
        pairs = samples.drawn_pairs(60, 3)
        drawn = [samples.drawn_share(chance, 3, 1) for _ in range(40)]
        pairs += [(one, other) for one in drawn for other in drawn]
        pairs += [(other, one) for one, other in samples.drawn_pairs(40, 4)]
        # Two spreads of one share: alike in total and moment, often neither wider.
        for one, _ in samples.drawn_pairs(60, 5, 3):
            pairs.append((samples.spread_share(chance, one, 4), samples.spread_share(chance, one, 4)))
        answers = set()
        for one, other in pairs:
            answer = oracle.wider(one, other)
            answers.add((answer, oracle.moment(one) == oracle.moment(other)))
            self.assertIs(shares.is_wider(one, other), answer)
        self.assertEqual(answers, {(True, True), (False, True), (False, False)})


class Papers(samples.Case):
    def test_table(self):
        self.same("table", shares.check_wider, ONE, HALVES, ("table", TABLE))
        self.same("table", shares.check_wider, (), (), ("table", ()))
        stays = tuple((number, number, weight) for number, weight in HALVES)
        self.same("table", shares.check_wider, HALVES, HALVES, ("table", stays))

    def test_table_with_one_thing_otherwise(self):
        for one, other in [(HALVES, ONE), (ONE, ONE), (HALVES, HALVES), ((), HALVES), (ONE, ())]:
            self.refuses_part(BadPaper, "table", shares.check_wider, one, other, ("table", TABLE))
        for table in [(), TABLE[:1], TABLE[::-1], ((0, -1, (1, 4)), (0, 1, (1, 4))), ((0, -2, (1, 2)), (0, 2, (1, 2)))]:
            self.refuses_part(BadPaper, "table", shares.check_wider, ONE, HALVES, ("table", table))

    def test_what_is_no_table(self):
        for thing in samples.NO_TABLES:
            self.refuses_part(BadPaper, "table", shares.check_wider, ONE, HALVES, ("table", thing))

    def test_total(self):
        half = ((0, (1, 2)),)
        self.same("total", shares.check_wider, ONE, half, ("total",))
        self.same("total", shares.check_wider, (), half, ("total",))
        self.refuses_part(BadPaper, "total", shares.check_wider, ONE, ONE, ("total",))
        self.refuses_part(BadPaper, "total", shares.check_wider, ONE, HALVES, ("total",))
        self.refuses_part(BadPaper, "total", shares.check_wider, ONE, ((5, (1, 1)),), ("total",))
        self.refuses_part(BadPaper, "total", shares.check_wider, HALVES, ONE, ("total",))

    def test_moment(self):
        self.same("moment", shares.check_wider, ONE, ((1, (1, 1)),), ("moment",))
        # The totals may be unlike as well.
        self.same("moment", shares.check_wider, ONE, ((1, (2, 1)),), ("moment",))
        self.refuses_part(BadPaper, "moment", shares.check_wider, ONE, ((0, (2, 1)),), ("moment",))
        self.refuses_part(BadPaper, "moment", shares.check_wider, HALVES, ONE, ("moment",))
        self.refuses_part(BadPaper, "moment", shares.check_wider, (), ONE, ("moment",))

    def test_mark(self):
        self.same("mark", shares.check_wider, HALVES, ONE, ("mark", 0))
        for mark in [-100, -1, 1, 100]:
            self.refuses_part(BadPaper, "mark", shares.check_wider, HALVES, ONE, ("mark", mark))
        self.refuses_part(BadPaper, "mark", shares.check_wider, ONE, HALVES, ("mark", 0))
        # It holds of other totals and moments too.
        self.same("mark", shares.check_wider, ((7, (1, 1)),), ONE, ("mark", 6))
        self.same("mark", shares.check_wider, ((100, (1, 1)),), (), ("mark", 99))
        self.same("mark", shares.check_wider, ((-99, (1, 1)),), (), ("mark", -100))
        self.refuses_part(BadPaper, "mark", shares.check_wider, ((100, (1, 1)),), (), ("mark", 100))

    def test_marks_that_are_no_numbers(self):
        for thing in samples.NO_NUMBERS:
            self.refuses_part(BadPaper, "mark", shares.check_wider, HALVES, ONE, ("mark", thing))
            self.refuses_part(BadPaper, "mark", shares.check_wider, ((100, (1, 1)),), (), ("mark", thing))

    def test_form(self):
        papers = samples.STRANGE + [
            "", "total", 1, (), ("",), ("tables", TABLE), ("table",), ("table", TABLE, 1), ("total", 1), ("moment", 0),
            ("mark",), ("mark", 0, 0), (None,), (True, 0), (("total",),), (["total"],), ("Total",), ("total ",),
            (b"total",), ["total"], ["mark", 0], (samples.Word("total"),), samples.Row(("total",)), (1, 2), ({},),
            (samples.Agreeing(),), (samples.Agreeing(), 0), (samples.namesake("str"),), (0, "mark"),
            ("fair",), ("shadow", TABLE, ()), (str,),
        ]
        for paper in papers:
            self.refuses_part(BadPaper, "form", shares.check_wider, HALVES, ONE, paper)
            self.refuses_part(BadPaper, "form", shares.check_wider, ONE, (), paper)

    def test_each_mark_by_the_words(self):
        chance = random.Random(6)
        for _ in range(15):
            one, other = samples.drawn_share(chance, 4), samples.drawn_share(chance, 4)
            lesser = oracle.lesser_marks(one, other)
            for mark in range(-100, 101, 1):
                if mark in lesser:
                    self.assertEqual(shares.check_wider(one, other, ("mark", mark)), "mark")
                else:
                    self.refuses_part(BadPaper, "mark", shares.check_wider, one, other, ("mark", mark))


class Together(samples.Case):
    def test_put_together(self):
        self.same(((-1, (1, 2)), (0, (1, 1)), (1, (1, 2))), shares.put_together, ONE, HALVES)
        self.same(((0, (2, 1)),), shares.put_together, ONE, ONE)
        self.same(((0, (5, 6)),), shares.put_together, ((0, (1, 2)),), ((0, (1, 3)),))
        self.same((), shares.put_together, (), ())
        for share in SHARES:
            self.same(share, shares.put_together, share, ())
            self.same(share, shares.put_together, (), share)

    def test_eight_and_nine_numbers(self):
        four = tuple((number, (1, 1)) for number in [1, 3, 5, 7])
        others = tuple((number, (1, 2)) for number in [0, 2, 4, 6])
        self.assertEqual(len(shares.put_together(four, others)), 8)
        full = tuple((number, (2, 1)) for number in range(8))
        self.same(tuple((number, (4, 1)) for number in range(8)), shares.put_together, full, full)
        for one, other in [(full, ((8, (1, 1)),)), (((-1, (1, 1)),), full), (four + ((9, (1, 1)),), others)]:
            with self.assertRaises(TooMany) as caught:
                shares.put_together(one, other)
            self.assertEqual(caught.exception.most, 8)

    def test_taken_from(self):
        self.same((), shares.taken_from, ONE, ONE)
        self.same((), shares.taken_from, (), ())
        self.same(ONE, shares.taken_from, ONE, ())
        self.same(((0, (1, 3)),), shares.taken_from, ONE, ((0, (2, 3)),))
        self.same(((1, (1, 2)),), shares.taken_from, HALVES, ((-1, (1, 2)),))
        self.same(((-1, (1, 6)), (1, (1, 2))), shares.taken_from, HALVES, ((-1, (1, 3)),))

    def test_taken_from_where_there_is_none(self):
        for one, other in [
            ((), ONE), (ONE, ((0, (3, 2)),)), (ONE, ((1, (1, 2)),)), (HALVES, ONE), (ONE, HALVES),
            (HALVES, ((-1, (1, 2)), (1, (BIG, 2 * BIG - 1)))), (samples.NINE[1:], ((0, (1, 1)),)),
            (samples.NINE[:8], samples.NINE[1:]),
        ]:
            self.refuses(BadShare, "given", other, shares.taken_from, one, other)

    def test_both_by_the_words(self):
        chance = random.Random(7)
        for _ in range(120):
            one, other = samples.drawn_share(chance, 4), samples.drawn_share(chance, 4)
            both = shares.put_together(one, other)
            weights = {number: oracle.worth(weight) for number, weight in one}
            for number, weight in other:
                weights[number] = weights.get(number, 0) + oracle.worth(weight)
            self.assertEqual(both, oracle.share_of(weights))
            self.same(one, shares.taken_from, both, other)
            self.same(other, shares.taken_from, both, one)


if __name__ == "__main__":
    unittest.main()
