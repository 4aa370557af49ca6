"""Point [21], and the section on fairness.py."""

import random
import unittest
from fractions import Fraction
from itertools import product

import oracle
import samples
from curtainsteps import fairness
from curtainsteps.days import fair_share, open_numbers
from curtainsteps.errors import BadBook, BadDays, BadPaper

TWO = ((0,), (-1, 0, 1))
THREE = ((0,), (-2, 1), (-3, 0, 4))
UPWARD = ((0,), (1,))
BOTH = (10, 0, 10)
CALL = (0, 0, 10)
# The MEAN of BOTH is at most 10: who sells one at 11 gains 1 for sure.
DEAR = ((BOTH, 11, None),)
GAIN = ((10, 1), ((0, 1),), ((1, 1),), ((0, 1),))
KEPT = ((BOTH, 4, 6), (CALL, None, 3))
FAIR = ((1, 4), (1, 2), (1, 4))
BIG = 10 ** 40 + 139


def is_sure_gain(told, book, hedge):
    """Point [21] in its own words."""
    return oracle.is_hedge(told, book, hedge) and min(oracle.pays(told, book, hedge)) >= 0 \
        and oracle.expense(book, hedge) <= -1


class Papers(samples.Case):
    def proves(self, told, book):
        """The paper holds, by the words and by the check; its first word."""
        paper = fairness.fair_paper(told, book)
        self.same(paper, fairness.fair_paper, told, book)
        self.assertEqual((paper.__class__, len(paper)), (tuple, 2))
        if paper[0] == "fair":
            self.assertTrue(oracle.is_fair(told, paper[1]) and oracle.keeps(paper[1], book), (told, book))
        else:
            self.assertEqual(paper[0], "gain")
            self.assertTrue(is_sure_gain(told, book, paper[1]), (told, book))
        self.same(paper[0], fairness.check_fair, told, book, paper)
        return paper[0]

    def test_plain_values(self):
        for told, book, word in [
            (TWO, (), "fair"), (TWO, KEPT, "fair"), (TWO, DEAR, "gain"), (TWO, ((BOTH, 10, 10),), "fair"),
            (TWO, ((BOTH, 0, 0),), "fair"), (TWO, ((BOTH, None, -1),), "gain"), (TWO, ((BOTH, None, 0),), "fair"),
            (TWO, ((BOTH, None, 2), (CALL, 1, None)), "fair"), (TWO, ((BOTH, None, 2), (CALL, 2, None)), "gain"),
            (TWO, ((BOTH, 3, None), (CALL, None, 1)), "gain"), (TWO, ((BOTH, 2, None), (CALL, None, 1)), "fair"),
            (TWO, ((BOTH, None, None),) * 6, "fair"), (TWO, ((BOTH, 4, 5), (BOTH, 6, 7)), "gain"),
            (TWO, ((BOTH, 4, 6), (BOTH, 6, 7)), "fair"), (((3,),), (), "fair"), (((3,),), (((5,), 5, 5),), "fair"),
            (((3,),), (((5,), 6, 7),), "gain"), (((3,),), (((5,), None, 4),), "gain"),
            (TWO, (((0, 0, 0), 1, None),), "gain"), (TWO, (((-1, 0, 1), 1, 1),), "gain"),
            (TWO, (((-10000, -10000, 10000), 10000, 10000),), "gain"), (THREE, (), "fair"),
            (THREE, (((3, 3, 3, 0, 0, 0), 1, 1),), "fair"), (THREE, (((3, 3, 3, 0, 0, 0), 2, None),), "gain"),
            (THREE, (((0, 0, 42, 0, 0, 42), None, 6),), "gain"), (THREE, (((0, 0, 42, 0, 0, 42), None, 7),), "fair"),
            (THREE, (((0, 0, 42, 0, 0, 42), 18, None),), "fair"), (THREE, (((0, 0, 42, 0, 0, 42), 19, None),), "gain"),
        ]:
            self.assertEqual(self.proves(told, book), word, (told, book))

    def test_days_without_a_fair_share(self):
        for told in [UPWARD, ((0,), (1, 2)), ((0,), (-3, 3), (2, 4)), ((-1, 1), (5,)), ((0,), (0,), (0,), (-7, -1))]:
            paths = len(list(product(*told)))
            for book in [(), (((1,) * paths, None, None),), (((2,) * paths, 2, 2),), (((2,) * paths, 3, 4),)]:
                self.assertEqual(self.proves(told, book), "gain")

    def test_against_all_corners(self):
        sizes = [(1, 3), (2, 2), (2, 3), (1, 2, 2), (1, 1, 3), (4,), (1, 4)]
        words = []
        for told, book in samples.drawn_books(70, 1, sizes, 2):
            words.append(self.proves(told, book))
            self.assertEqual(words[-1] == "fair", oracle.corner_fairs(told, book) != [], (told, book))
        self.assertTrue(15 < words.count("gain") < 55)

    def test_many_paths(self):
        sizes = [(1, 4, 8), (2, 2, 2, 4), (8, 4), (1, 2, 4, 4), (3, 3, 3), (4, 8), (1, 8, 4), (8, 4, 1, 1)]
        words = [self.proves(told, book) for told, book in samples.drawn_books(40, 2, sizes, 6)]
        self.assertGreater(words.count("fair"), 5)
        self.assertGreater(words.count("gain"), 5)

    def test_no_book_is_kept_where_numbers_are_open(self):
        chance = random.Random(3)
        for _ in range(60):
            told = samples.drawn_days(chance, chance.choice([(2, 3), (2, 2, 2), (3, 1, 2, 2), (1, 5)]))
            self.assertEqual(self.proves(told, ()), "fair" if open_numbers(told)[0] else "gain")


class Checks(samples.Case):
    def test_form(self):
        for paper in samples.STRANGE + [
            "", "fair", 0, (), ("fair",), ("gain",), ("fair", FAIR, 1), ("gain", GAIN, 1), ("Fair", FAIR),
            (FAIR, "fair"), ["fair", FAIR], (b"fair", FAIR), (None, FAIR), (True, FAIR), ("", FAIR), ("table", ()),
            (FAIR,), FAIR, GAIN,
            (samples.Word("fair"), FAIR), samples.Row(("fair", FAIR)), (samples.Agreeing(), FAIR), (["fair"], FAIR),
            (samples.namesake("str"), GAIN), "ab", ({}, FAIR),
        ]:
            for book in [KEPT, DEAR, ()]:
                self.refuses_part(BadPaper, "form", fairness.check_fair, TWO, book, paper)

    def test_fair(self):
        for fair in [FAIR, ((1, 5), (3, 5), (1, 5)), ((3, 10), (2, 5), (3, 10))]:
            self.same("fair", fairness.check_fair, TWO, KEPT, ("fair", fair))
        # They do not keep: below the one bound, above the other.
        hardly = Fraction(1, BIG)
        for part in [Fraction(1, 5) - hardly, Fraction(3, 10) + hardly, Fraction(0), Fraction(1, 2)]:
            fair = (oracle.told(part), oracle.told(1 - 2 * part), oracle.told(part))
            self.assertTrue(oracle.is_fair(TWO, fair))
            self.refuses_part(BadPaper, "fair", fairness.check_fair, TWO, KEPT, ("fair", fair))
            self.same("fair", fairness.check_fair, TWO, (), ("fair", fair))
        for thing in samples.no_fairs(FAIR) + [GAIN]:
            self.refuses_part(BadPaper, "fair", fairness.check_fair, TWO, KEPT, ("fair", thing))
            self.refuses_part(BadPaper, "fair", fairness.check_fair, TWO, DEAR, ("fair", thing))
        self.refuses_part(BadPaper, "fair", fairness.check_fair, TWO, DEAR, ("fair", FAIR))
        self.refuses_part(BadPaper, "fair", fairness.check_fair, UPWARD, (), ("fair", ((1, 1),)))

    def test_gain(self):
        self.same("gain", fairness.check_fair, TWO, DEAR, ("gain", GAIN))
        twice = ((20, 1), ((0, 1),), ((2, 1),), ((0, 1),))
        self.same("gain", fairness.check_fair, TWO, DEAR, ("gain", twice))
        self.same("gain", fairness.check_fair, UPWARD, (), ("gain", ((-1, 1), (), (), ((1, 1),))))
        self.same("gain", fairness.check_fair, UPWARD, (), ("gain", ((-2, 1), (), (), ((BIG, 2),))))
        for hedge in [
            # Below nought on the one path, on the other, on the third; then costs of more than -1.
            ((10, 1), ((0, 1),), ((1, 1),), ((1, BIG),)), ((10, 1), ((0, 1),), ((1, 1),), ((-1, BIG),)),
            ((-1, BIG), ((0, 1),), ((0, 1),), ((0, 1),)), ((10 * BIG - 1, BIG), ((0, 1),), ((1, 1),), ((0, 1),)),
            ((10 * BIG + 1, BIG), ((0, 1),), ((1, 1),), ((0, 1),)), ((5, 1), ((0, 1),), ((1, 2),), ((0, 1),)),
            ((0, 1), ((0, 1),), ((0, 1),), ((0, 1),)), ((11, 1), ((0, 1),), ((1, 1),), ((0, 1),)),
        ]:
            self.assertFalse(is_sure_gain(TWO, DEAR, hedge))
            self.refuses_part(BadPaper, "gain", fairness.check_fair, TWO, DEAR, ("gain", hedge))
        for hedge in [((-1, 1), (), (), ((0, 1),)), ((-1, 1), (), (), ((BIG - 1, BIG),)), ((1, 1), (), (), ((1, 1),)),
                      ((1 - BIG, BIG), (), (), ((1, 1),))]:
            self.refuses_part(BadPaper, "gain", fairness.check_fair, UPWARD, (), ("gain", hedge))
        for thing in samples.no_hedges(DEAR, GAIN) + [FAIR]:
            self.refuses_part(BadPaper, "gain", fairness.check_fair, TWO, DEAR, ("gain", thing))

    def test_never_one_of_each_sort(self):
        sizes = [(1, 3), (2, 2), (2, 3), (1, 2, 3)]
        for told, book in samples.drawn_books(30, 4, sizes):
            word, thing = fairness.fair_paper(told, book)
            contrary = {"fair": "gain", "gain": "fair"}[word]
            self.refuses_part(BadPaper, contrary, fairness.check_fair, told, book, (contrary, thing))
            if word == "fair":
                # Without what was bought and sold it gains nothing.
                many = len(oracle.beginnings(told))
                hedge = ((-1, 1), ((0, 1),) * len(book), ((0, 1),) * len(book), ((0, 1),) * many)
                self.refuses_part(BadPaper, "gain", fairness.check_fair, told, book, ("gain", hedge))
            else:
                fair = fair_share(told)
                self.refuses_part(BadPaper, "fair", fairness.check_fair, told, book, ("fair", fair))


class Arguments(samples.Case):
    def test_what_are_no_days(self):
        for thing in samples.NO_DAYS:
            for book in [(), None]:
                self.refuses(BadDays, "given", thing, fairness.fair_paper, thing, book)
                self.refuses(BadDays, "given", thing, fairness.check_fair, thing, book, None)

    def test_what_are_no_books(self):
        for thing in samples.STRANGE + ["", 0, [], (None,) * 7, list(KEPT), samples.Row(KEPT)]:
            self.refuses_part(BadBook, "form", fairness.fair_paper, TWO, thing)
            self.refuses_part(BadBook, "form", fairness.check_fair, TWO, thing, None)
        for thing in [None, (), (BOTH, 1, 0), (BOTH, 0, True), (BOTH, 0, 10001), (BOTH[1:], 0, 1), [BOTH, 0, 1]]:
            for at in range(3):
                book = (KEPT[0],) * at + (thing, None)
                self.refuses_part(BadBook, at, fairness.fair_paper, TWO, book)
                self.refuses_part(BadBook, at, fairness.check_fair, TWO, book, None)
                self.refuses_part(BadBook, at, fairness.check_fair, TWO, book, ("fair", FAIR))


if __name__ == "__main__":
    unittest.main()
