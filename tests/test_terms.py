"""Points [26] and [27], and the section on terms.py."""

import random
import unittest
from itertools import product

import oracle
import samples
import trees
from curtainsteps import terms
from curtainsteps.bounds import greatest_mean, greatest_paper, least_mean
from curtainsteps.days import fair_share
from curtainsteps.errors import BadDays, BadTerm
from curtainsteps.paths import is_claim

THREE = ((0, 3), (-2, 1, 6), (-3, 0, 9))
FOUR = ((0, 1), (-1, 0), (-2, 7), (-5, 5))
AT = ("at", 0)
CASH = ("cash", 4)


class Case(samples.Case):
    def bad(self, path, call, *passed):
        """The call raises BadTerm with this path."""
        self.refuses_telling(BadTerm, {"path": path}, call, *passed)

    def none(self, path, thing):
        """It is no TERM: by all calls the fault is at this path."""
        self.bad(path, terms.need_term, thing)
        self.bad(path, terms.kids_of, thing)
        self.bad(path, terms.claim_of, THREE, thing)


class NeedTerm(Case):
    def test_the_thing_itself(self):
        for thing in [
            CASH, AT, ("above", 1, 5), ("below", 2, -5), ("lowest", 3), ("highest", 0), ("both", AT, CASH),
            ("short", AT), ("times", AT, 5), ("lesser", AT, CASH), ("greater", AT, AT), ("if", 0, 5, AT, CASH),
        ]:
            self.assertIs(terms.need_term(thing), thing)
            self.assertIs(terms.need_term(thing), thing)

    def test_bounds_of_integers(self):
        for make in [
            lambda n: ("cash", n), lambda n: ("above", 0, n), lambda n: ("below", 3, n), lambda n: ("times", AT, n),
            lambda n: ("if", 3, n, AT, AT),
        ]:
            for good in (-1000, -1, 0, 1, 1000):
                self.assertEqual(terms.need_term(make(good)), make(good))
            for bad in [-1001, 1001, -10 ** 30, 10 ** 30, "0", "", (), samples.Whole(0), *samples.STRANGE]:
                self.none((), make(bad))

    def test_numbers_of_days(self):
        for make in [
            lambda d: ("at", d), lambda d: ("above", d, 0), lambda d: ("below", d, 0), lambda d: ("lowest", d),
            lambda d: ("highest", d), lambda d: ("if", d, 0, AT, AT),
        ]:
            for good in range(4):
                self.assertEqual(terms.need_term(make(good)), make(good))
            for bad in [-1, 4, 5, 1000, -1000, 10 ** 30, "0", (), samples.Whole(0), *samples.STRANGE]:
                self.none((), make(bad))

    def test_what_are_none(self):
        for thing in trees.NO_TREES + [("none",), ("point", 0, 1, 1), ("mixed", AT, AT), ("moved", AT, 1)]:
            self.none((), thing)

    def test_the_number_of_things(self):
        for word, parts in trees.TERMS.items():
            good = (word, *[AT if part == "S" else 1 for part in parts])
            self.assertIs(terms.need_term(good), good)
            for thing in [good[:-1], good + (1,), good + (AT,), list(good), (good,), (word,), (word + " ", *good[1:])]:
                self.none((), thing)

    def test_things_of_another_place(self):
        for thing, path in [
            (("times", 5, AT), ()), (("both", 1, AT), (1,)), (("both", AT, 1), (2,)), (("short", 0), (1,)),
            (("if", AT, 0, AT, AT), ()), (("if", 0, AT, AT, AT), ()), (("if", 0, 0, 0, AT), (3,)),
            (("if", 0, 0, AT, 0), (4,)), (("times", AT, AT), ()), (("cash", AT), ()), (("at", CASH), ()),
            (("lesser", AT, ("cash",)), (2,)), (("greater", ["cash", 0], AT), (1,)), (("short", list(AT)), (1,)),
        ]:
            self.none(path, thing)

    def test_the_first_fault(self):
        for path, thing in [
            ((1,), ("both", None, None)), ((2,), ("both", AT, None)), ((), ("both", None, None, None)),
            # The whole ahead of those in it.
            ((), ("times", None, 1001)), ((), ("if", 4, 0, None, None)), ((3,), ("if", 3, 0, None, None)),
            ((4,), ("if", 3, 0, AT, None)), ((1, 1), ("both", ("both", None, AT), None)),
            # Each with its own behind it, ahead of the next one.
            ((1, 2), ("both", ("both", AT, None), None)), ((1,), ("both", ("times", None, 1001), None)),
            ((2, 1, 4), ("both", ("short", AT), ("greater", ("if", 0, 0, AT, ("cash", True)), ["at"]))),
            ((1, 1, 1), ("short", ("short", ("short", None)))),
            ((2, 2), ("lesser", AT, ("lesser", AT, ("lesser", None)))),
        ]:
            self.none(path, thing)
        for thing in trees.NO_TREES:
            self.none((1, 3), ("both", ("if", 0, 0, thing, None), thing))
            self.none((4, 2), ("if", 0, 0, ("short", AT), ("both", ("cash", 1000), thing)))

    def test_20_words(self):
        for many in range(1, 21):
            term = trees.full_term(many)
            self.assertEqual(trees.size(term, trees.TERMS), many)
            self.assertIs(terms.need_term(term), term)
        for many in range(21, 45):
            self.none((), trees.full_term(many))
        # What stands there does not matter; what is wrong ahead of it does.
        last = [path for path, _ in trees.nodes(trees.full_term(21), trees.TERMS)][-1]
        for thing in trees.NO_TREES:
            self.none((), trees.replaced(trees.full_term(21), last, thing))
        twenty = trees.full_term(20)
        for path, node in trees.nodes(twenty, trees.TERMS):
            self.none(path, trees.replaced(twenty, path, ("cash", 1001)))
            # A leaf more, and what it stands in: the fault in it is ahead of the 21st word, if it is no later.
            self.none((), trees.replaced(twenty, path, ("both", node, AT)))
        ahead = trees.replaced(trees.full_term(30), (1, 1), None)
        self.none((1, 1), ahead)

    def test_8_within_one_another(self):
        for many in range(1, 9):
            self.assertEqual(terms.need_term(trees.deep_term(many)), trees.deep_term(many))
        for many in range(9, 30):
            self.none((), trees.deep_term(many))
        for thing in trees.NO_TREES:
            self.none((1,) * 7, trees.deep_term(8, thing))
            self.none((), trees.deep_term(9, thing))
            self.none((), trees.deep_term(12, thing))
        deep = trees.deep_term(8)
        for leaf, path in [(("both", AT, AT), ()), (("both", None, AT), ()), (("times", None, 1001), (1,) * 7)]:
            self.none(path, trees.replaced(deep, (1,) * 7, leaf))
        # In the second one of two; a fault in the first one is ahead of it, one behind it is not.
        self.none((), ("both", AT, trees.deep_term(8)))
        self.none((1,), ("both", None, trees.deep_term(8)))
        self.none((), ("both", trees.deep_term(8), None))
        self.none((2,), ("both", trees.deep_term(7), None))

    def test_drawn_faults(self):
        chance = random.Random(1)
        paths = set()
        for _ in range(600):
            term = trees.drawn_term(chance, chance.randint(1, 26), chance.randint(1, 10))
            for _ in range(chance.randint(0, 2)):
                path, _ = chance.choice(list(trees.nodes(term, trees.TERMS)))
                thing = chance.choice([None, ("cash", 1001), ("short", None), ("both", AT), ("at", True), ["at", 0]])
                try:
                    term = trees.replaced(term, path, thing)
                except TypeError:
                    pass
                if trees.fault(term, trees.TERMS) is not None:
                    break
            path = trees.fault(term, trees.TERMS)
            paths.add(path)
            if path is None:
                self.assertIs(terms.need_term(term), term)
            else:
                self.none(path, term)
        self.assertGreater(len(paths), 30)


class Kids(Case):
    def test_plain_values(self):
        for leaf in [CASH, AT, ("above", 1, 5), ("below", 2, -5), ("lowest", 3), ("highest", 0)]:
            self.same((), terms.kids_of, leaf)
            self.same((leaf,), terms.kids_of, ("short", leaf))
            self.same((leaf,), terms.kids_of, ("times", leaf, 7))
            for word in ["both", "lesser", "greater"]:
                self.same((leaf, AT), terms.kids_of, (word, leaf, AT))
            self.same((CASH, leaf), terms.kids_of, ("if", 0, 1, CASH, leaf))
        self.same((("short", AT), CASH), terms.kids_of, ("both", ("short", AT), CASH))


class Claims(Case):
    def test_plain_values(self):
        for term, claim in [
            (("cash", 7), (7,) * 18), (("cash", -1000), (-1000,) * 18),
            (("at", 0), (0,) * 9 + (3,) * 9), (("at", 1), (-2, -2, -2, 1, 1, 1, 6, 6, 6) * 2),
            (("at", 2), (-3, 0, 9) * 6),
            (("above", 1, 1), (0, 0, 0, 0, 0, 0, 5, 5, 5) * 2), (("above", 1, 0), (0, 0, 0, 1, 1, 1, 6, 6, 6) * 2),
            (("above", 2, -1000), (997, 1000, 1009) * 6), (("above", 2, 1000), (0,) * 18),
            (("below", 1, 1), (3, 3, 3, 0, 0, 0, 0, 0, 0) * 2), (("below", 1, 2), (4, 4, 4, 1, 1, 1, 0, 0, 0) * 2),
            (("below", 2, 1000), (1003, 1000, 991) * 6), (("below", 2, -1000), (0,) * 18),
            (("lowest", 0), (0,) * 9 + (3,) * 9),
            (("lowest", 1), (-2, -2, -2, 0, 0, 0, 0, 0, 0, -2, -2, -2, 1, 1, 1, 3, 3, 3)),
            (("lowest", 2), (-3, -2, -2, -3, 0, 0, -3, 0, 0, -3, -2, -2, -3, 0, 1, -3, 0, 3)),
            (("highest", 0), (0,) * 9 + (3,) * 9),
            (("highest", 1), (0, 0, 0, 1, 1, 1, 6, 6, 6, 3, 3, 3, 3, 3, 3, 6, 6, 6)),
            (("highest", 2), (0, 0, 9, 1, 1, 9, 6, 6, 9, 3, 3, 9, 3, 3, 9, 6, 6, 9)),
            (("both", AT, CASH), (4,) * 9 + (7,) * 9), (("both", AT, AT), (0,) * 9 + (6,) * 9),
            (("short", ("at", 2)), (3, 0, -9) * 6), (("short", CASH), (-4,) * 18),
            (("times", ("at", 2), 5), (-15, 0, 45) * 6), (("times", ("at", 2), 0), (0,) * 18),
            (("times", ("at", 2), -1000), (3000, 0, -9000) * 6),
            (("lesser", ("at", 2), ("cash", -1)), (-3, -1, -1) * 6),
            (("greater", ("at", 2), ("cash", -1)), (-1, 0, 9) * 6),
            (("if", 2, 0, ("cash", 1), ("cash", 2)), (2, 2, 1) * 6), (("if", 2, -1, CASH, ("at", 2)), (-3, 4, 4) * 6),
            (("if", 0, 2, ("at", 2), ("at", 1)), (-2, -2, -2, 1, 1, 1, 6, 6, 6) + (-3, 0, 9) * 3),
            (("if", 0, 3, ("at", 2), ("cash", 0)), (0,) * 18),
        ]:
            self.same(claim, terms.claim_of, THREE, term)
            self.assertTrue(is_claim(THREE, claim))

    def test_one_day_and_four(self):
        self.same((5,), terms.claim_of, ((5,),), AT)
        self.same((-7, 9), terms.claim_of, ((-7, 9),), ("highest", 0))
        self.same((-5, 5) * 8, terms.claim_of, FOUR, ("at", 3))
        term = ("lesser", ("at", 3), ("greater", ("at", 2), ("cash", 0)))
        self.same((-5, 0, -5, 5) * 2, terms.claim_of, ((0,),) + FOUR[1:], term)
        self.same((-5, -2, -5, -1, -5, -2, -5, 0) * 2, terms.claim_of, FOUR, ("lowest", 3))
        self.same((0, 5, 7, 7, 0, 5, 7, 7, 1, 5, 7, 7, 1, 5, 7, 7), terms.claim_of, FOUR, ("highest", 3))

    def test_by_the_words(self):
        chance = random.Random(2)
        lacking = 0
        for _ in range(500):
            days = samples.drawn_days(chance, chance.choice([(1,), (4,), (2, 3), (2, 3, 2), (1, 2, 2, 2), (2, 4, 4)]))
            near = chance.random() < 0.8
            term = trees.drawn_term(chance, chance.randint(1, 20), 8, len(days) if near else 4, chance.choice([6, 900]))
            try:
                claim = trees.claim(days, term)
            except trees.Lacks as caught:
                lacking += 1
                self.bad(caught.path, terms.claim_of, days, term)
            else:
                self.same(claim, terms.claim_of, days, term)
                self.assertTrue(is_claim(days, claim))
        self.assertTrue(50 < lacking < 300, lacking)

    def test_numbers_of_other_days(self):
        for days in [((5,),), ((0,), (0,)), THREE, FOUR]:
            for day in range(4):
                for term in [("at", day), ("above", day, 0), ("below", day, 0), ("lowest", day), ("highest", day),
                             ("if", day, 0, AT, AT)]:
                    if day < len(days):
                        self.assertEqual(len(terms.claim_of(days, term)), len(list(product(*days))))
                        self.assertEqual(terms.claim_of(days, ("short", term)), tuple(
                            -item for item in terms.claim_of(days, term)))
                    else:
                        self.bad((), terms.claim_of, days, term)
                        self.bad((2,), terms.claim_of, days, ("both", AT, term))
                        self.bad((1,), terms.claim_of, days, ("times", term, 0))
                        self.bad((3,), terms.claim_of, days, ("if", 0, 1000, term, AT))
                        self.bad((4,), terms.claim_of, days, ("if", 0, -1000, AT, term))

    def test_10000(self):
        ten = ("times", ("cash", 1000), 10)
        for way in (1, -1):
            most = ("times", ("cash", 1000), 10 * way)
            self.same((10000 * way,), terms.claim_of, ((5,),), most)
            self.bad((), terms.claim_of, ((5,),), ("both", most, ("cash", way)))
            self.bad((), terms.claim_of, ((5,),), ("times", ("cash", 1000), 11 * way))
            self.same((9999 * way,), terms.claim_of, ((5,),), ("both", most, ("cash", -way)))
            # On one PATH only.
            self.same((0, 0, 10) * 6, terms.claim_of, THREE, ("times", ("above", 2, 8), 10))
            over = ("both", ("times", ("at", 2), 1000), ("cash", 1000))
            self.same((-2000, 1000, 10000) * 6, terms.claim_of, THREE, over)
            self.bad((), terms.claim_of, THREE, ("both", over, ("cash", 1)))
            self.bad((), terms.claim_of, THREE, ("both", over, ("above", 2, 8)))
            self.bad((1,), terms.claim_of, THREE, ("short", ("both", over, ("above", 2, 8))))
        self.same((-10000,), terms.claim_of, ((5,),), ("short", ten))
        self.bad((), terms.claim_of, ((5,),), ("times", ten, 2))
        self.bad((), terms.claim_of, ((5,),), ("times", ten, -1000))

    def test_within_a_whole_that_pays_less(self):
        big = ("times", ("cash", 1000), 11)
        for path, term in [
            ((1,), ("times", big, 0)), ((1,), ("both", big, ("short", big))), ((2,), ("both", AT, big)),
            ((1,), ("lesser", big, ("cash", 0))), ((2,), ("lesser", ("cash", 0), big)),
            ((3,), ("if", 0, 1000, big, AT)), ((4,), ("if", 0, -1000, AT, big)), ((1, 1), ("short", ("short", big))),
            # Those ahead of the whole, from left to right: the later one is not reached, nor the whole.
            ((1,), ("both", big, big)), ((1, 2), ("both", ("both", AT, big), big)),
            ((2, 1), ("both", AT, ("short", big))),
            ((1, 1), ("times", ("short", ("times", ("cash", -1000), 11)), 1000)),
            ((1,), ("both", ("at", 3), big)), ((1,), ("both", big, ("at", 3))), ((3,), ("if", 3, 0, big, ("at", 3))),
            ((4,), ("if", 3, 0, AT, ("at", 3))), ((), ("if", 3, 0, AT, AT)), ((1,), ("short", ("at", 3))),
        ]:
            self.bad(path, terms.claim_of, THREE, term)

    def test_days_ahead_of_terms(self):
        for thing in samples.NO_DAYS:
            for term in [None, AT, ("at", 4), (), ("cash", 1001)]:
                self.refuses(BadDays, "given", thing, terms.claim_of, thing, term)

    def test_what_is_no_term_ahead_of_no_claim(self):
        big = ("times", ("cash", 1000), 11)
        self.bad((2,), terms.claim_of, THREE, ("both", big, None))
        self.bad((2,), terms.claim_of, THREE, ("both", ("at", 3), ("cash", 1001)))
        self.bad((), terms.claim_of, THREE, ("both", trees.deep_term(8, big), AT))


class Facts(samples.Case):
    def means(self, days, fair, term):
        return oracle.mean(fair, terms.claim_of(days, term))

    def test_means_from_day_to_day(self):
        chance = random.Random(3)
        seen = 0
        while seen < 40:
            sizes = chance.choice([(1, 3), (2, 3, 2), (1, 2, 2, 4), (1, 1, 3, 3), (2, 2, 2, 2)])
            days = samples.drawn_days(chance, sizes)
            if fair_share(days) is None:
                continue
            seen += 1
            drift = tuple(chance.randint(-9, 9) for _ in product(*days))
            for fair in [fair_share(days), greatest_paper(days, (), drift)[0]]:
                mark = chance.randint(-7, 7)
                for day in range(len(days) - 1):
                    self.assertEqual(self.means(days, fair, ("at", day)), self.means(days, fair, ("at", day + 1)))
                    for word in ["above", "below"]:
                        self.assertLessEqual(
                            self.means(days, fair, (word, day, mark)), self.means(days, fair, (word, day + 1, mark)))
                for day in range(len(days)):
                    middle = self.means(days, fair, ("at", day))
                    self.assertLessEqual(self.means(days, fair, ("lowest", day)), middle)
                    self.assertLessEqual(middle, self.means(days, fair, ("highest", day)))

    def test_above_less_below(self):
        for days in [THREE, FOUR, ((5,),)]:
            for day in range(len(days)):
                for mark in (-1000, -3, 0, 1, 6, 1000):
                    self.same(
                        terms.claim_of(days, ("both", ("at", day), ("short", ("cash", mark)))), terms.claim_of, days,
                        ("both", ("above", day, mark), ("short", ("below", day, mark))))

    def test_a_bound(self):
        days = ((0,), (-1, 0, 1))
        claim = terms.claim_of(days, ("above", 1, 0))
        self.assertEqual((least_mean(days, (), claim), greatest_mean(days, (), claim)), ((0, 1), (1, 2)))


if __name__ == "__main__":
    unittest.main()
