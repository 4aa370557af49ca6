"""Points [22] and [23], and the section on bounds.py."""

import random
import unittest
from fractions import Fraction
from itertools import product

import oracle
import samples
from curtainsteps import bounds
from curtainsteps.errors import BadBook, BadClaim, BadDays, BadPaper, SureGain
from curtainsteps.fairness import check_fair

TWO = ((0,), (-1, 0, 1))
THREE = ((0,), (-2, 1), (-3, 0, 4))
BOTH = (10, 0, 10)
CALL = (0, 0, 1)
# Whether the last day is at 4; the same only if the day ahead was at -2.
FOUR = (0, 0, 42, 0, 0, 42)
FALL = (0, 0, 42, 0, 0, 0)
ANSWERS = [bounds.greatest_mean, bounds.least_mean, bounds.is_told, bounds.greatest_paper, bounds.least_paper]
CHECKS = [bounds.check_greatest, bounds.check_least]
# Half to each side; and what pays no less than CALL.
FAIR = ((1, 2), (0, 1), (1, 2))
HEDGE = ((1, 2), (), (), ((1, 2),))
BIG = 10 ** 40 + 139


def holds(told, book, claim, paper, way):
    """Point [22] in its own words: 1 for the GREATEST, -1 for the LEAST."""
    fair, hedge = paper
    if not oracle.is_fair(told, fair) or not oracle.keeps(fair, book) or not oracle.is_hedge(told, book, hedge):
        return False
    if any(paid < way * item for paid, item in zip(oracle.pays(told, book, hedge), claim)):
        return False
    return oracle.expense(book, hedge) == way * oracle.mean(fair, claim)


class Case(samples.Case):
    def proves(self, told, book, claim):
        """Both papers hold, by the words and by the checks; the means are theirs. The LEAST and the GREATEST."""
        found = []
        for paper_of, mean, check, way in [
            (bounds.least_paper, bounds.least_mean, bounds.check_least, -1),
            (bounds.greatest_paper, bounds.greatest_mean, bounds.check_greatest, 1),
        ]:
            paper = paper_of(told, book, claim)
            self.same(paper, paper_of, told, book, claim)
            self.assertEqual((paper.__class__, len(paper)), (tuple, 2))
            self.assertTrue(holds(told, book, claim, paper, way), (told, book, claim))
            found.append(oracle.mean(paper[0], claim))
            self.same(oracle.told(found[-1]), mean, told, book, claim)
            self.same(oracle.told(found[-1]), check, told, book, claim, paper)
        self.same(found[0] == found[1], bounds.is_told, told, book, claim)
        return found

    def gains(self, told, book, call, *passed):
        """The call raises SureGain, with a paper that holds."""
        def check(paper):
            self.assertEqual(paper[0], "gain")
            self.assertEqual(check_fair(told, book, paper), "gain")

        self.refuses_paper(SureGain, check, call, told, book, *passed)


class TwoDays(Case):
    def test_without_quotes(self):
        for claim, least, greatest in [
            (CALL, 0, Fraction(1, 2)), (BOTH, 0, 10), ((0, 1, 0), 0, 1), ((-1, 0, 1), 0, 0), ((7, 7, 7), 7, 7),
            ((-3, 5, 13), 5, 5), ((1, 2, 2), Fraction(3, 2), 2), ((-10000, 10000, -10000), -10000, 10000),
            ((10000,) * 3, 10000, 10000),
        ]:
            self.assertEqual(self.proves(TWO, (), claim), [least, greatest])
        self.same(True, bounds.is_told, TWO, (), (-3, 5, 13))
        self.same(False, bounds.is_told, TWO, (), CALL)
        self.same((1, 2), bounds.greatest_mean, TWO, (), CALL)
        self.same((0, 1), bounds.least_mean, TWO, (), CALL)

    def test_one_day(self):
        self.assertEqual(self.proves(((3,),), (), (7,)), [7, 7])
        self.assertEqual(self.proves(((3, 4, 9),), (), (7, -2, 5)), [-2, 7])
        book = (((7, -2, 5), 1, 1),)
        self.assertEqual(self.proves(((3, 4, 9),), book, (3, 0, 0)), [0, 1])
        self.same(True, bounds.is_told, ((3, 4, 9),), book, (7, -2, 5))

    def test_with_quotes(self):
        for book, least, greatest in [
            (((BOTH, 5, 5),), Fraction(1, 4), Fraction(1, 4)), (((BOTH, 4, 6),), Fraction(1, 5), Fraction(3, 10)),
            (((BOTH, 4, None),), Fraction(1, 5), Fraction(1, 2)), (((BOTH, None, 6),), 0, Fraction(3, 10)),
            (((BOTH, None, None),), 0, Fraction(1, 2)), (((BOTH, -9, 99),), 0, Fraction(1, 2)),
            (((BOTH, 4, 6), ((0, 8, 0), 4, None)), Fraction(1, 5), Fraction(1, 4)),
            (((BOTH, 4, None), ((0, 8, 0), 4, None), (CALL, -5, 5)), Fraction(1, 5), Fraction(1, 4)),
            (((BOTH, 10, None),), Fraction(1, 2), Fraction(1, 2)), (((BOTH, None, 0),), 0, 0),
            (((BOTH, None, 6),) * 6, 0, Fraction(3, 10)),
        ]:
            self.assertEqual(self.proves(TWO, book, CALL), [least, greatest])

    def test_against_all_corners(self):
        chance = random.Random(1)
        kept = told_ones = 0
        for told, book in samples.drawn_books(60, 2, [(1, 3), (2, 2), (2, 3), (1, 2, 2), (1, 4), (4,)], 2):
            claim = tuple(chance.randint(-10000, 10000) for _ in product(*told))
            corners = oracle.corner_fairs(told, book)
            if corners:
                kept += 1
                means = [sum(part * item for part, item in zip(corner, claim)) for corner in corners]
                self.assertEqual(self.proves(told, book, claim), [min(means), max(means)])
                told_ones += min(means) == max(means)
            else:
                for call in ANSWERS:
                    self.gains(told, book, call, claim)
        self.assertGreater(kept, 20)
        self.assertGreater(told_ones, 2)


class ThreeDays(Case):
    def test_by_hand(self):
        # From 0 a third goes to -2, of which at most a seventh goes to 4; of the other two thirds a quarter to four
        # sevenths do.
        self.assertEqual(self.proves(THREE, (), FOUR), [7, 18])
        self.assertEqual(self.proves(THREE, (), FALL), [0, 2])
        self.assertEqual(self.proves(THREE, (), (3, 3, 3, 0, 0, 0)), [1, 1])
        self.assertEqual(self.proves(THREE, (), (0, 0, 0, 3, 3, 3)), [2, 2])
        self.assertEqual(self.proves(THREE, (), (-3, 0, 4, -3, 0, 4)), [0, 0])

    def test_one_quote_more(self):
        # At its bounds nothing is left open; between them as far as either day allows.
        for price in range(7, 19):
            book = ((FOUR, price, price),)
            self.assertEqual(self.proves(THREE, book, FALL), [max(0, price - 16), min(2, price - 7)])
            self.assertEqual(self.proves(THREE, book, FOUR), [price, price])
        for book in [((FOUR, 7, 18),), ((FOUR, 7, None),), ((FOUR, None, 18),), ((FOUR, -10000, 10000),)]:
            self.assertEqual(self.proves(THREE, book, FALL), [0, 2])
            self.assertEqual(self.proves(THREE, book, FOUR), [7, 18])
        self.assertEqual(self.proves(THREE, ((FOUR, 8, 17),), FALL), [0, 2])
        self.assertEqual(self.proves(THREE, ((FOUR, None, 8),), FALL), [0, 1])
        self.assertEqual(self.proves(THREE, ((FOUR, 17, None),), FALL), [1, 2])
        for book in [((FOUR, 6, 6),), ((FOUR, 19, 19),), ((FOUR, None, 6),), ((FOUR, 19, None),)]:
            for call in ANSWERS:
                self.gains(THREE, book, call, FALL)

    def test_facts_on_one_quote_more(self):
        chance = random.Random(3)
        bent = refused = 0
        for told, book in samples.drawn_books(30, 4, [(1, 3), (2, 3), (1, 2, 3), (2, 2, 2), (1, 8), (1, 2, 2, 3)], 5):
            claims = [tuple(chance.randint(-6, 6) for _ in product(*told)) for _ in range(2)]
            try:
                least, greatest = self.proves(told, book, claims[0])
            except SureGain:
                continue
            low, high = self.proves(told, book, claims[1])
            rows = []
            for price in range(-8, 9):
                more = book + ((claims[0], price, price),)
                if least <= price <= greatest:
                    rows.append(self.proves(told, more, claims[1]))
                    self.assertTrue(low <= rows[-1][0] <= rows[-1][1] <= high)
                    self.same(True, bounds.is_told, told, more, claims[0])
                else:
                    refused += 1
                    self.gains(told, more, bounds.greatest_mean, claims[1])
                    self.gains(told, more, bounds.is_told, claims[0])
            for first, second, third in zip(rows, rows[1:], rows[2:]):
                bent += 1
                self.assertLessEqual(third[1] - second[1], second[1] - first[1])
                self.assertGreaterEqual(third[0] - second[0], second[0] - first[0])
        self.assertGreater(bent, 10)
        self.assertGreater(refused, 30)

    def test_many_paths(self):
        chance = random.Random(5)
        kept = 0
        sizes = [(1, 4, 8), (2, 2, 2, 4), (1, 4, 2, 4), (4, 8), (3, 3, 3), (1, 2, 8, 2)]
        for told, book in samples.drawn_books(20, 6, sizes, 6):
            claim = tuple(chance.randint(-10000, 10000) for _ in product(*told))
            try:
                least, greatest = self.proves(told, book, claim)
            except SureGain:
                continue
            kept += 1
            self.assertLessEqual(least, greatest)
            contrary = tuple(-item for item in claim)
            self.assertEqual(self.proves(told, book, contrary), [-greatest, -least])
        self.assertGreater(kept, 5)


class Checks(Case):
    def test_plain_papers(self):
        self.same((1, 2), bounds.check_greatest, TWO, (), CALL, (FAIR, HEDGE))
        self.same((0, 1), bounds.check_least, TWO, (), CALL, (((0, 1), (1, 1), (0, 1)), ((0, 1), (), (), ((0, 1),))))
        # The LEAST is not nought: the HEDGE costs the contrary.
        stays = ((0, 1), (1, 1), (0, 1))
        self.same((3, 1), bounds.check_least, TWO, (), (4, 3, 4), (stays, ((-3, 1), (), (), ((0, 1),))))
        self.refuses_part(
            BadPaper, "hedge", bounds.check_least, TWO, (), (4, 3, 4), (stays, ((-4, 1), (), (), ((0, 1),))))
        self.refuses_part(
            BadPaper, "cost", bounds.check_least, TWO, (), (4, 3, 4), (stays, ((3, 1), (), (), ((0, 1),))))
        # Bought at 6, sold at 4.
        book = ((BOTH, 4, 6),)
        high, low = ((3, 10), (2, 5), (3, 10)), ((1, 5), (3, 5), (1, 5))
        bought = ((0, 1), ((1, 20),), ((0, 1),), ((1, 2),))
        sold = ((0, 1), ((0, 1),), ((1, 20),), ((-1, 2),))
        self.same((3, 10), bounds.check_greatest, TWO, book, CALL, (high, bought))
        self.same((1, 5), bounds.check_least, TWO, book, CALL, (low, sold))
        for check, fair, hedge in [
            (bounds.check_greatest, low, bought), (bounds.check_greatest, FAIR, bought),
            (bounds.check_least, high, sold), (bounds.check_least, stays, sold),
        ]:
            part = "cost" if fair in (low, high) else "fair"
            self.refuses_part(BadPaper, part, check, TWO, book, CALL, (fair, hedge))
        self.refuses_part(BadPaper, "hedge", bounds.check_greatest, TWO, book, CALL, (high, sold))
        self.refuses_part(BadPaper, "cost", bounds.check_least, TWO, book, CALL, (low, bought))

    def test_form(self):
        for paper in samples.STRANGE + [
            "", "ab", 0, (), (FAIR,), (FAIR, HEDGE, 0), [FAIR, HEDGE], samples.Row((FAIR, HEDGE)), {0: FAIR, 1: HEDGE},
            ((FAIR, HEDGE),), HEDGE, FAIR, (FAIR, *HEDGE),
        ]:
            for check in CHECKS:
                self.refuses_part(BadPaper, "form", check, TWO, (), CALL, paper)

    def test_fair(self):
        for thing in samples.no_fairs(FAIR):
            self.refuses_part(BadPaper, "fair", bounds.check_greatest, TWO, (), CALL, (thing, HEDGE))
            # Ahead of what is wrong with the HEDGE.
            self.refuses_part(BadPaper, "fair", bounds.check_least, TWO, (), CALL, (thing, None))
        # Right, but it does not keep the BOOK.
        for check in CHECKS:
            self.refuses_part(BadPaper, "fair", check, TWO, ((BOTH, None, 9),), CALL, (FAIR, None))
            self.refuses_part(BadPaper, "fair", check, TWO, ((BOTH, 0, 10), ((0, 9, 0), 1, None)), CALL, (FAIR, None))

    def test_hedge(self):
        for thing in samples.no_hedges((), HEDGE) + [
            # Too little at -1, at 1, at 0.
            ((BIG - 2, 2 * BIG), (), (), ((1, 2),)), ((1, 2), (), (), ((BIG + 2, 2 * BIG),)),
            ((1, 2), (), (), ((BIG - 2, 2 * BIG),)), ((-1, BIG), (), (), ((5, 1),)), ((1, 3), (), (), ((2, 3),)),
        ]:
            self.refuses_part(BadPaper, "hedge", bounds.check_greatest, TWO, (), CALL, (FAIR, thing))
        stays = ((0, 1), (1, 1), (0, 1))
        for thing in samples.no_hedges((), HEDGE) + [
            ((-1, BIG), (), (), ((0, 1),)), ((0, 1), (), (), ((1, BIG),)), ((0, 1), (), (), ((-BIG - 1, BIG),)),
        ]:
            self.refuses_part(BadPaper, "hedge", bounds.check_least, TWO, (), CALL, (stays, thing))
        # Nothing may be sold for what has no BID.
        book = ((BOTH, None, 9), ((1, 1, 1), 1, None))
        fair = bounds.greatest_paper(TWO, book, CALL)[0]
        for held in [(((0, 1), (0, 1)), ((1, 9), (0, 1))), (((0, 1), (1, 9)), ((0, 1), (0, 1)))]:
            self.refuses_part(
                BadPaper, "hedge", bounds.check_greatest, TWO, book, CALL, (fair, ((9, 1), *held, ((0, 1),))))

    def test_cost(self):
        for cash in [(BIG + 2, 2 * BIG), (1, 1), (9, 1)]:
            self.refuses_part(
                BadPaper, "cost", bounds.check_greatest, TWO, (), CALL, (FAIR, (cash, (), (), ((1, 2),))))
        # A FAIR SHARE that keeps the BOOK, with another MEAN.
        quarter = ((1, 4), (1, 2), (1, 4))
        self.refuses_part(BadPaper, "cost", bounds.check_greatest, TWO, (), CALL, (quarter, HEDGE))
        self.refuses_part(
            BadPaper, "cost", bounds.check_least, TWO, (), CALL, (quarter, ((0, 1), (), (), ((0, 1),))))
        # The paper of the one is none of the other.
        claim = (1, 2, 2)
        least, greatest = bounds.least_paper(TWO, (), claim), bounds.greatest_paper(TWO, (), claim)
        self.refuses_part(BadPaper, "hedge", bounds.check_greatest, TWO, (), claim, least)
        self.refuses_part(BadPaper, "cost", bounds.check_least, TWO, (), claim, greatest)

    def test_one_thing_otherwise(self):
        chance = random.Random(7)
        seen = []
        for told, book in samples.drawn_books(15, 8, [(1, 3), (2, 3), (1, 2, 3), (1, 5)]):
            claim = tuple(chance.randint(-50, 50) for _ in product(*told))
            try:
                papers = [bounds.least_paper(told, book, claim), bounds.greatest_paper(told, book, claim)]
            except SureGain:
                continue
            for check, way, (fair, hedge) in zip(CHECKS, (1, -1), papers[::-1]):
                for by in [Fraction(1, BIG), Fraction(-1, BIG)]:
                    cash = oracle.told(oracle.worth(hedge[0]) + by)
                    paper = (fair, (cash, *hedge[1:]))
                    paid = oracle.pays(told, book, paper[1])
                    enough = all(item >= way * wanted for item, wanted in zip(paid, claim))
                    seen.append("cost" if enough else "hedge")
                    self.refuses_part(BadPaper, seen[-1], check, told, book, claim, paper)
        self.assertEqual(set(seen), {"cost", "hedge"})


class Arguments(Case):
    def test_a_sure_gain(self):
        for told, book in [
            (TWO, ((BOTH, 11, None),)), (TWO, ((BOTH, None, 2), ((0, 0, 10), 2, 3))), (((0,), (1,)), ()),
            (((0,), (-3, 3), (2, 4)), ()), (THREE, ((FOUR, 19, None),)), (((3,),), (((5,), 6, 7),)),
        ]:
            paths = len(list(product(*told)))
            for call in ANSWERS:
                self.gains(told, book, call, (1,) * paths)
                for thing in [None, (1,) * (paths + 1), (True,) * paths, (10001,) * paths, "1" * paths]:
                    self.refuses(BadClaim, "given", thing, call, told, book, thing)
            for check in CHECKS:
                # Ahead of anything that is wrong with the paper.
                for paper in [None, (), (FAIR, HEDGE), ("gain", HEDGE)]:
                    self.gains(told, book, check, (1,) * paths, paper)
                self.refuses(BadClaim, "given", None, check, told, book, None, None)

    def test_what_are_no_claims(self):
        for thing in samples.no_claims(3):
            for call in ANSWERS:
                self.refuses(BadClaim, "given", thing, call, TWO, (), thing)
            for check in CHECKS:
                self.refuses(BadClaim, "given", thing, check, TWO, (), thing, (FAIR, HEDGE))
                self.refuses(BadClaim, "given", thing, check, TWO, (), thing, None)

    def test_what_are_no_days_and_no_books(self):
        for thing in samples.NO_DAYS:
            for call in ANSWERS:
                self.refuses(BadDays, "given", thing, call, thing, None, None)
                self.refuses(BadDays, "given", thing, call, thing, (), (1,))
            for check in CHECKS:
                self.refuses(BadDays, "given", thing, check, thing, None, None, None)
        quote = (BOTH, 0, 1)
        for thing, part in [(None, "form"), ([], "form"), ((quote,) * 7, "form"), ((quote, None), 1), ((quote[:2],), 0),
                            ((quote, quote, (BOTH, 1, 0)), 2), (((BOTH, 0, True), None), 0)]:
            for call in ANSWERS:
                self.refuses_part(BadBook, part, call, TWO, thing, CALL)
                self.refuses_part(BadBook, part, call, TWO, thing, None)
            for check in CHECKS:
                self.refuses_part(BadBook, part, check, TWO, thing, None, None)


if __name__ == "__main__":
    unittest.main()
