"""Points [20] and [21] as far as books.py speaks of them, and the section on books.py."""

import random
import unittest
from fractions import Fraction

import oracle
import samples
from curtainsteps import books
from curtainsteps.days import fair_share, paths_of
from curtainsteps.errors import BadBook, BadClaim, BadDays, BadFair, BadHedge

TWO = ((0,), (-1, 0, 1))
FAIR = ((1, 4), (1, 2), (1, 4))
BOTH = (1, 0, 1)
CALL = (0, 0, 1)
BOOK = ((BOTH, 0, 1), (CALL, None, 2), ((5, 6, 7), -3, None), ((0, 0, 0), None, None))
HEDGE = ((1, 2), ((1, 3), (2, 1), (0, 1), (0, 1)), ((1, 5), (0, 1), (4, 1), (0, 1)), ((-7, 2),))
EMPTY = ((0, 1), (), (), ((0, 1),))
THREE = ((0,), (-2, 1), (-3, 0, 4))
BIG = 10 ** 30 + 57
QUOTE = (BOTH, 0, 1)

# What is no QUOTE of TWO.
NO_QUOTES = samples.STRANGE + [
    "", "abc", 0, (), (BOTH,), (BOTH, 0), (BOTH, 0, 1, 1), [BOTH, 0, 1], samples.Row(QUOTE), BOTH, (1, 0, BOTH),
    *[(thing, 0, 1) for thing in samples.no_claims(3)],
    *[(BOTH, thing, 5) for thing in samples.NO_NUMBERS if thing is not None and thing not in (101, -101, 1000)],
    *[(BOTH, -5, thing) for thing in samples.NO_NUMBERS if thing is not None and thing not in (101, -101, 1000)],
    (BOTH, 1, 0), (BOTH, 10000, -10000), (BOTH, 10001, None), (BOTH, None, 10001), (BOTH, -10001, None),
    (BOTH, None, -10001), (BOTH, -10001, 5), (BOTH, 0, 10001), (BOTH, True, 1), (BOTH, 0, True), (BOTH, False, None),
    (BOTH, (0, 1), (1, 1)), (BOTH, "0", "1"), (BOTH, "", None), (BOTH, (), ()),
]


def drawn_hedges(many, seed):
    """DAYS, a BOOK and a HEDGE for it, drawn."""
    chance = random.Random(seed)
    sizes = [(1,), (3,), (1, 3), (2, 4), (2, 2, 3), (3, 1, 4), (2, 2, 2, 2)]
    for _ in range(many):
        told = samples.drawn_days(chance, chance.choice(sizes))
        paths = len(paths_of(told))
        book, buys, sells = [], [], []
        for _ in range(chance.randint(0, 6)):
            low, high = sorted([chance.randint(-10000, 10000), chance.randint(-10000, 10000)])
            quote = (
                tuple(chance.randint(-10000, 10000) for _ in range(paths)),
                chance.choice([None, low, low]), chance.choice([None, high, high]),
            )
            book.append(quote)
            bought, sold = Fraction(chance.randint(0, 9), chance.randint(1, 4)), Fraction(chance.randint(0, 9), BIG)
            buys.append((0, 1) if quote[2] is None else oracle.told(bought))
            sells.append((0, 1) if quote[1] is None else oracle.told(sold))
        dealing = tuple(
            oracle.told(Fraction(chance.randint(-9, 9), chance.randint(1, 4))) for _ in oracle.beginnings(told)
        )
        cash = oracle.told(Fraction(chance.randint(-9, 9), chance.randint(1, 4)))
        yield told, tuple(book), (cash, tuple(buys), tuple(sells), dealing)


class NeedBook(samples.Case):
    def test_the_thing_itself(self):
        for told, thing in [
            (TWO, ()), (TWO, BOOK), (TWO, (QUOTE,) * 6), (TWO, (((-10000, 10000, 0), -10000, 10000),)),
            (TWO, ((BOTH, 10000, 10000), (BOTH, -10000, -10000), (BOTH, None, -10000), (BOTH, 10000, None))),
            (((3,),), (((5,), 5, 5),)), (THREE, (((1,) * 6, None, None),)), (((0,), (1,)), (((0,), 4, None),)),
        ]:
            self.assertIs(books.need_book(told, thing), thing)

    def test_form(self):
        for thing in samples.STRANGE + [
            "", "book", 0, (QUOTE,) * 7, ((None,) * 7), [QUOTE], [], list(BOOK), samples.Row((QUOTE,)), samples.Row(()),
            {0: QUOTE}, "abcdefg", (1,) * 8,
        ]:
            self.refuses_part(BadBook, "form", books.need_book, TWO, thing)
            self.refuses_part(BadBook, "form", books.does_keep, TWO, FAIR, thing)
            for call in [books.is_hedge, books.pays, books.costs]:
                self.refuses_part(BadBook, "form", call, TWO, thing, None)

    def test_the_number_of_the_first_wrong_one(self):
        for thing in NO_QUOTES:
            for at in (0, 2, 5):
                book = (QUOTE,) * at + (thing,) + (None,) * (5 - at)
                self.refuses_part(BadBook, at, books.need_book, TWO, book)
            self.refuses_part(BadBook, 1, books.does_keep, TWO, FAIR, (QUOTE, thing))
            for call in [books.is_hedge, books.pays, books.costs]:
                self.refuses_part(BadBook, 0, call, TWO, (thing, thing), HEDGE)
        # The number is an integer, not False.
        try:
            books.need_book(TWO, (None,))
        except BadBook as caught:
            self.assertIs(caught.part.__class__, int)

    def test_claims_of_other_days(self):
        self.refuses_part(BadBook, 0, books.need_book, THREE, (QUOTE,))
        self.refuses_part(BadBook, 0, books.need_book, ((3,),), (QUOTE,))
        self.refuses_part(BadBook, 0, books.need_book, TWO, (((5,), 5, 5),))


class Means(samples.Case):
    def test_plain_values(self):
        self.same((1, 2), books.mean_of, TWO, FAIR, BOTH)
        self.same((1, 4), books.mean_of, TWO, FAIR, CALL)
        self.same((0, 1), books.mean_of, TWO, FAIR, (0, 0, 0))
        self.same((0, 1), books.mean_of, TWO, FAIR, (-1, 0, 1))
        self.same((-10000, 1), books.mean_of, TWO, FAIR, (-10000,) * 3)
        self.same((10000, 1), books.mean_of, TWO, FAIR, (10000,) * 3)
        self.same((7, 1), books.mean_of, ((3,),), ((1, 1),), (7,))
        self.same((7 * BIG - 7, BIG), books.mean_of, ((3, 4),), ((1, BIG), (BIG - 1, BIG)), (0, 7))

    def test_by_the_words(self):
        chance = random.Random(1)
        for told in [TWO, THREE, ((0, 1), (-4, 2, 3)), ((0, 1),) * 4]:
            fair = fair_share(told)
            for _ in range(10):
                claim = tuple(chance.randint(-10000, 10000) for _ in fair)
                self.same(oracle.told(oracle.mean(fair, claim)), books.mean_of, told, fair, claim)

    def test_does_keep(self):
        for book, answer in [
            ((), True), (BOOK, True), (((BOTH, None, None),), True), (((BOTH, 1, None),), False),
            (((BOTH, None, 0),), False), (((BOTH, 0, None),), True), (((BOTH, None, 1),), True),
            ((((4, 0, 4), 2, 2),), True), ((((4, 0, 4), 2, None), ((4, 0, 4), None, 2)), True),
            ((((4, 0, 4), 3, None),), False), ((((4, 0, 4), None, 1),), False),
            ((((10000, 0, 9999), 5000, None),), False), ((((10000, 0, 9999), None, 5000),), True),
            ((((10000, 0, 9999), None, 4999),), False), ((((10000, 0, 9999), 4999, None),), True),
            ((((10000, 1, 9999), 5000, None),), True),
            ((QUOTE, QUOTE, (CALL, 1, 1)), False), (((CALL, 1, 1), QUOTE), False),
        ]:
            self.same(answer, books.does_keep, TWO, FAIR, book)

    def test_keeping_by_the_words(self):
        chance = random.Random(2)
        answers = []
        for _ in range(200):
            claims = [tuple(chance.randint(-9, 9) for _ in range(3)) for _ in range(chance.randint(1, 3))]
            book = tuple((claim, *sorted([chance.randint(-5, 3), chance.randint(-3, 5)])) for claim in claims)
            answers.append(oracle.keeps(FAIR, book))
            self.same(answers[-1], books.does_keep, TWO, FAIR, book)
        self.assertTrue(20 < answers.count(True) < 180)


class Hedges(samples.Case):
    def test_plain_values(self):
        self.same(True, books.is_hedge, TWO, (), EMPTY)
        self.same(True, books.is_hedge, TWO, BOOK, HEDGE)
        self.same(True, books.is_hedge, ((3,),), (), ((5, 7), (), (), ()))
        self.same(((0, 1),) * 3, books.pays, TWO, (), EMPTY)
        self.same((0, 1), books.costs, TWO, (), EMPTY)
        # A half, and a half of each step: what CALL pays, or more.
        self.same(((0, 1), (1, 2), (1, 1)), books.pays, TWO, (), ((1, 2), (), (), ((1, 2),)))
        self.same((1, 2), books.costs, TWO, (), ((1, 2), (), (), ((1, 2),)))
        book = ((BOTH, 3, 5),)
        self.same(((2, 1), (0, 1), (2, 1)), books.pays, TWO, book, ((0, 1), ((2, 1),), ((0, 1),), ((0, 1),)))
        self.same((10, 1), books.costs, TWO, book, ((0, 1), ((2, 1),), ((0, 1),), ((0, 1),)))
        self.same(((-2, 1), (0, 1), (-2, 1)), books.pays, TWO, book, ((0, 1), ((0, 1),), ((2, 1),), ((0, 1),)))
        self.same((-6, 1), books.costs, TWO, book, ((0, 1), ((0, 1),), ((2, 1),), ((0, 1),)))
        self.same((2, 1), books.costs, TWO, book, ((0, 1), ((1, 1),), ((1, 1),), ((9, 1),)))
        self.same(((-9, 1), (0, 1), (9, 1)), books.pays, TWO, book, ((0, 1), ((1, 1),), ((1, 1),), ((9, 1),)))
        self.same(((7, 1),), books.pays, ((3,),), (((5,), 1, 2),), ((2, 1), ((1, 1),), ((0, 1),), ()))

    def test_several_days(self):
        # Dealing behind 0, behind (0, -2) and behind (0, 1).
        hedge = ((0, 1), (), (), ((1, 1), (10, 1), (100, 1)))
        self.same(((-12, 1), (18, 1), (58, 1), (-399, 1), (-99, 1), (301, 1)), books.pays, THREE, (), hedge)
        self.same((0, 1), books.costs, THREE, (), hedge)

    def test_by_the_words(self):
        for told, book, hedge in drawn_hedges(120, 3):
            self.same(True, books.is_hedge, told, book, hedge)
            self.same(tuple(map(oracle.told, oracle.pays(told, book, hedge))), books.pays, told, book, hedge)
            self.same(oracle.told(oracle.expense(book, hedge)), books.costs, told, book, hedge)

    def test_the_mean_of_what_is_paid(self):
        kept = 0
        for told, book, hedge in drawn_hedges(300, 4):
            fair = fair_share(told)
            if fair is not None:
                paid = [oracle.worth(item) for item in books.pays(told, book, hedge)]
                mean = sum(oracle.worth(part) * item for part, item in zip(fair, paid))
                if books.does_keep(told, fair, book):
                    kept += 1
                    self.assertLessEqual(mean, oracle.worth(books.costs(told, book, hedge)))
                if book == ():
                    self.assertEqual(mean, oracle.worth(books.costs(told, book, hedge)))
        self.assertGreater(kept, 30)

    def test_what_are_none(self):
        for told, book, hedge in [(TWO, BOOK, HEDGE), *list(drawn_hedges(12, 5))]:
            for thing in samples.no_hedges(book, hedge):
                self.same(False, books.is_hedge, told, book, thing)
                self.refuses(BadHedge, "given", thing, books.pays, told, book, thing)
                self.refuses(BadHedge, "given", thing, books.costs, told, book, thing)

    def test_sides_that_are_lacking(self):
        book = ((BOTH, None, 1), (BOTH, 1, None), (BOTH, None, None))
        nought = ((0, 1),) * 3
        for at in range(3):
            for side in (1, 2):
                held = nought[:at] + ((1, BIG),) + nought[at + 1:]
                hedge = ((0, 1), held, nought, EMPTY[3]) if side == 1 else ((0, 1), nought, held, EMPTY[3])
                self.same(book[at][3 - side] is not None, books.is_hedge, TWO, book, hedge)


class Arguments(samples.Case):
    def test_what_are_no_days(self):
        for thing in samples.NO_DAYS:
            for passed in [(thing, ()), (thing, None)]:
                self.refuses(BadDays, "given", thing, books.need_book, *passed)
            for call in [books.mean_of, books.does_keep, books.is_hedge, books.pays, books.costs]:
                self.refuses(BadDays, "given", thing, call, thing, None, None)
                self.refuses(BadDays, "given", thing, call, thing, (), ())

    def test_what_are_no_fair_shares(self):
        for thing in samples.no_fairs(FAIR):
            self.refuses(BadFair, "given", thing, books.mean_of, TWO, thing, BOTH)
            self.refuses(BadFair, "given", thing, books.mean_of, TWO, thing, None)
            self.refuses(BadFair, "given", thing, books.does_keep, TWO, thing, ())
            self.refuses(BadFair, "given", thing, books.does_keep, TWO, thing, None)

    def test_what_are_no_claims(self):
        for thing in samples.no_claims(3):
            self.refuses(BadClaim, "given", thing, books.mean_of, TWO, FAIR, thing)
        for thing in samples.no_claims(1):
            self.refuses(BadClaim, "given", thing, books.mean_of, ((3,),), ((1, 1),), thing)


if __name__ == "__main__":
    unittest.main()
