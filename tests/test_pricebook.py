"""Point [30], and the section on pricebook.py."""

import random
import unittest
from contextlib import contextmanager, suppress
from itertools import product

import oracle
import samples
from curtainsteps import pricebook
from curtainsteps.bounds import greatest_mean, least_mean
from curtainsteps.errors import (
    BadClaim, BadDays, BadLabel, BadNumber, BadQuote, Missing, NothingLeft, StepError, SureGain, TooMany,
)
from curtainsteps.fairness import check_fair, fair_paper
from curtainsteps.pricebook import Pricebook

TWO = ((0,), (-1, 0, 1))
THREE = ((0,), (-2, 1), (-3, 0, 4))
BOTH = (10, 0, 10)
CALL = (0, 0, 1)
STAY = (0, 8, 0)
# A CLAIM for each DAYS: its bounds are looked at for traces of a deed.
CALL_OF = {TWO: CALL, THREE: (0, 0, 9, 0, 0, 9), ((3,),): (7,), ((3, 5),): (0, 1)}
UNFAIR = [((0,), (1,)), ((0,), (-3, 3), (2, 4)), ((0, 1), (2, 3)), ((5,), (6,), (5,)), ((0,), (0,), (0,), (-1,))]

# What makes no QUOTE.
NO_QUOTES = [
    (1, 0), (10000, -10000), (10001, None), (None, 10001), (-10001, None), (None, -10001), (10 ** 30, 10 ** 30),
    (True, None), (None, True), (False, 5), (0, True), ("1", None), (None, "1"), ((1, 1), None), (None, (1, 1)),
    (samples.Whole(1), None), (None, samples.Whole(1)), (samples.Three.THREE, 5), ("-", "-"), ("", None), ((), ()),
    *[(thing, 5) for thing in samples.STRANGE if thing is not None],
    *[(5, thing) for thing in samples.STRANGE if thing is not None],
]
NO_NAMES = samples.NO_LABELS + ["c", "bb", "abcdefgh", "none"]


def traces(book):
    """All that can be seen of a Pricebook, and all that undo takes back."""
    seen = [(book.days, book.book, book.labels(), len(book), book.bounds_of(CALL_OF[book.days]))]
    other = book.copy()
    while len(other):
        other.undo()
        seen.append((other.book, other.labels(), [other.quote(label) for label in other.labels()]))
    return seen


def ready():
    """With two QUOTES, after three deeds."""
    book = Pricebook(TWO)
    book.put("b", BOTH, 4, 6)
    book.put("a", CALL, None, None)
    book.change("b", 3, 7)
    return book


def full():
    """With six QUOTES."""
    book = Pricebook(TWO)
    for label in "fcadeb":
        book.put(label, BOTH, 4, 6)
    return book


class Case(samples.Case):
    def setUp(self):
        self.book = ready()

    def unharmed(self, error, attribute, value, call, *passed):
        """The call is refused with just this error, twice, and leaves no trace."""
        ahead = traces(call.__self__)
        for _ in range(2):
            with self.assertRaises(error, msg=repr(passed)) as caught:
                call(*passed)
            self.assertIs(caught.exception.__class__, error, repr(passed))
            kept = getattr(caught.exception, attribute)
            if attribute == "paper":
                self.assertEqual(check_fair(call.__self__.days, value, kept), "gain")
            elif error is BadQuote:
                self.assertIs(type(kept), tuple)
                self.assertEqual(len(kept), 2)
                self.assertIs(kept[0], value[0])
                self.assertIs(kept[1], value[1])
            elif error is TooMany:
                self.assertEqual(repr(kept), repr(value))
            else:
                self.assertIs(kept, value)
        self.assertEqual(traces(call.__self__), ahead)

    def pair(self, expected, told):
        """What is told is a pair of FRACTIONS, and is this."""
        self.assertEqual(told, expected)
        self.assertEqual(repr(told), repr(expected))


class Making(Case):
    def test_days(self):
        for days in [TWO, THREE, ((3,),), ((3, 5),), ((0, 9), (-1, 1)), ((0,),) * 4]:
            book = Pricebook(days)
            self.assertEqual(book.days, days)
            self.assertEqual(book.book, ())
            self.assertEqual(book.labels(), ())
            self.assertEqual(len(book), 0)

    def test_what_are_none(self):
        for thing in samples.NO_DAYS:
            self.refuses(BadDays, "given", thing, Pricebook, thing)

    def test_days_without_a_fair_share(self):
        for days in UNFAIR:
            self.refuses(BadDays, "given", days, Pricebook, days)

    def test_properties(self):
        for name in ["days", "book"]:
            self.assertIsInstance(vars(Pricebook)[name], property)
            with self.assertRaises(AttributeError):
                setattr(self.book, name, ())
        self.assertIs(type(self.book.book), tuple)


class Deeds(Case):
    def test_put(self):
        book = Pricebook(TWO)
        self.pair(((4, 1), (6, 1)), book.put("price", BOTH, 4, 6))
        self.assertEqual(book.book, ((BOTH, 4, 6),))
        self.assertEqual(book.labels(), ("price",))
        self.assertEqual(book.quote("price"), (BOTH, 4, 6))
        self.pair(((1, 5), (3, 10)), book.put("call", CALL, None, None))
        self.pair(((1, 5), (1, 4)), book.put("half", CALL, -3, 9) and book.put("stay", STAY, 4, None)
                  and book.bounds_of(CALL))
        self.assertEqual(book.labels(), ("call", "half", "price", "stay"))
        self.assertEqual(book.book, ((CALL, None, None), (CALL, -3, 9), (BOTH, 4, 6), (STAY, 4, None)))
        self.assertEqual(len(book), 4)

    def test_put_with_one_bound(self):
        for bid, ask, pair in [
            (None, None, ((0, 1), (10, 1))), (4, None, ((4, 1), (10, 1))), (None, 6, ((0, 1), (6, 1))),
            (-10000, 10000, ((0, 1), (10, 1))), (0, 10, ((0, 1), (10, 1))), (10, 10, ((10, 1), (10, 1))),
            (0, 0, ((0, 1), (0, 1))), (10, None, ((10, 1), (10, 1))), (None, 0, ((0, 1), (0, 1))),
        ]:
            book = Pricebook(TWO)
            self.pair(pair, book.put("a", BOTH, bid, ask))
            self.assertEqual(book.quote("a"), (BOTH, bid, ask))

    def test_labels(self):
        for label in ["a", "z", "abcdefgh", "zzzzzzzz", "none", "put", "q"]:
            book = Pricebook(TWO)
            book.put(label, CALL, None, None)
            self.assertEqual(book.labels(), (label,))
        for label in samples.NO_LABELS:
            self.unharmed(BadLabel, "given", label, self.book.put, label, CALL, None, None)
        book = Pricebook(TWO)
        for label in ["b", "ab", "a", "aa", "zz", "ba"]:
            book.put(label, CALL, None, None)
        self.assertEqual(book.labels(), ("a", "aa", "ab", "b", "ba", "zz"))

    def test_a_label_that_is_there(self):
        for label in ["a", "b"]:
            for passed in [(CALL, None, None), (None, 1, 0), (CALL, 1, 0), (BOTH, 11, None)]:
                self.unharmed(BadLabel, "given", label, self.book.put, label, *passed)
        book = full()
        self.unharmed(BadLabel, "given", "a", book.put, "a", BOTH, 4, 6)
        self.book.take("a")
        self.pair(((3, 20), (7, 20)), self.book.put("a", CALL, None, None))

    def test_change(self):
        self.pair(((5, 1), (5, 1)), self.book.change("b", 5, 5))
        self.assertEqual(self.book.quote("b"), (BOTH, 5, 5))
        self.assertEqual(self.book.quote("a"), (CALL, None, None))
        self.assertEqual(len(self.book), 4)
        # The same ones: a deed, too.
        self.pair(((5, 1), (5, 1)), self.book.change("b", 5, 5))
        self.assertEqual(len(self.book), 5)
        self.pair(((0, 1), (10, 1)), self.book.change("b", None, None))
        self.pair(((0, 1), (0, 1)), self.book.change("a", None, 0))
        self.assertEqual(self.book.book, ((CALL, None, 0), (BOTH, None, None)))
        self.pair(((0, 1), (0, 1)), self.book.change("b", 0, None))
        self.assertEqual(len(self.book), 8)

    def test_take(self):
        self.pair(((0, 1), (10, 1)), self.book.take("b"))
        self.assertEqual(self.book.labels(), ("a",))
        self.assertEqual(self.book.book, ((CALL, None, None),))
        self.assertEqual(len(self.book), 4)
        self.pair(((0, 1), (1, 2)), self.book.take("a"))
        self.assertEqual(self.book.book, ())
        self.assertEqual(len(self.book), 5)
        book = Pricebook(TWO)
        book.put("a", BOTH, 4, 6)
        book.put("b", STAY, 4, None)
        # By the QUOTE that is left.
        self.pair(((0, 1), (5, 1)), book.take("a"))

    def test_others_that_count(self):
        book = Pricebook(TWO)
        book.put("m", STAY, 4, 4)
        self.pair(((5, 1), (5, 1)), book.put("a", BOTH, -5, 9))
        self.pair(((1, 4), (1, 4)), book.put("z", CALL, None, 1))

    def test_bounds_and_quotes(self):
        self.pair(((3, 20), (7, 20)), self.book.bounds_of(CALL))
        self.pair(((3, 1), (7, 1)), self.book.bounds_of(BOTH))
        self.pair(((0, 1), (0, 1)), self.book.bounds_of((-1, 0, 1)))
        self.pair(((5, 1), (5, 1)), self.book.bounds_of((5, 5, 5)))
        self.assertEqual(len(self.book), 3)
        self.assertEqual(self.book.quote("a"), (CALL, None, None))
        for thing in samples.no_claims(3):
            self.unharmed(BadClaim, "given", thing, self.book.bounds_of, thing)

    def test_one_day(self):
        book = Pricebook(((3, 5),))
        self.pair(((1, 4), (1, 4)), book.put("a", (0, 4), 1, 1) and book.bounds_of((0, 1)))
        book = Pricebook(((3,),))
        self.pair(((7, 1), (7, 1)), book.put("a", (7,), 7, None))
        self.unharmed(SureGain, "paper", (((7,), 7, None), ((7,), None, 6)), book.put, "b", (7,), None, 6)


class Refusals(Case):
    def test_what_is_no_claim(self):
        for thing in samples.no_claims(3):
            self.unharmed(BadClaim, "given", thing, self.book.put, "c", thing, 1, 2)
            self.unharmed(BadClaim, "given", thing, self.book.put, "c", thing, 2, 1)
        self.unharmed(BadClaim, "given", None, full().put, "g", None, None, None)

    def test_what_makes_no_quote(self):
        for bid, ask in NO_QUOTES:
            self.unharmed(BadQuote, "given", (bid, ask), self.book.put, "c", CALL, bid, ask)
            self.unharmed(BadQuote, "given", (bid, ask), self.book.change, "a", bid, ask)
        self.unharmed(BadQuote, "given", (1, 0), full().put, "g", CALL, 1, 0)
        self.unharmed(BadQuote, "given", (11, 9), self.book.put, "g", BOTH, 11, 9)

    def test_too_many(self):
        book = full()
        self.assertEqual(len(book), 6)
        self.unharmed(TooMany, "most", 6, book.put, "g", BOTH, 4, 6)
        # Ahead of a SURE GAIN.
        self.unharmed(TooMany, "most", 6, book.put, "g", BOTH, 11, None)
        book.take("c")
        book.put("g", BOTH, 4, 6)
        self.assertEqual(book.labels(), ("a", "b", "d", "e", "f", "g"))
        self.unharmed(TooMany, "most", 6, book.put, "c", BOTH, 4, 6)
        book.undo()
        book.put("c", BOTH, 5, 5)
        self.unharmed(TooMany, "most", 6, book.put, "h", BOTH, 4, 6)

    def test_a_sure_gain(self):
        for label, place in [("aa", 1), ("c", 2), ("ab", 1)]:
            for claim, bid, ask in [(BOTH, 8, None), (BOTH, None, 2), (CALL, 5, None), (STAY, 7, 8), (STAY, None, 2)]:
                would = list(self.book.book)
                would.insert(place, (claim, bid, ask))
                self.unharmed(SureGain, "paper", tuple(would), self.book.put, label, claim, bid, ask)
        self.unharmed(SureGain, "paper", ((CALL, 1, None), (BOTH, 3, 7)), self.book.change, "a", 1, None)
        self.unharmed(SureGain, "paper", ((CALL, None, 0), (BOTH, 3, 7)), self.book.change, "a", None, 0)
        self.unharmed(SureGain, "paper", ((CALL, None, None), (BOTH, 11, None)), self.book.change, "b", 11, None)
        self.unharmed(SureGain, "paper", ((CALL, None, None), (BOTH, -5, -1)), self.book.change, "b", -5, -1)

    def test_the_order(self):
        book = full()
        for label, claim, target in product(["B", "a", "g"], [None, BOTH], [book, self.book]):
            self.in_order(label, claim, 1, 0, target, target is book)
            self.in_order(label, claim, 11, 12, target, target is book)

    def in_order(self, label, claim, bid, ask, target, is_full):
        if label == "B" or (label == "a" and label in target.labels()):
            self.unharmed(BadLabel, "given", label, target.put, label, claim, bid, ask)
        elif claim is None:
            self.unharmed(BadClaim, "given", None, target.put, label, claim, bid, ask)
        elif bid == 1:
            self.unharmed(BadQuote, "given", (bid, ask), target.put, label, claim, bid, ask)
        elif is_full:
            self.unharmed(TooMany, "most", 6, target.put, label, claim, bid, ask)
        else:
            self.unharmed(SureGain, "paper", (*target.book, (BOTH, 11, 12)), target.put, label, claim, bid, ask)

    def test_missing(self):
        for book in [self.book, Pricebook(TWO)]:
            for thing in NO_NAMES:
                self.unharmed(Missing, "given", thing, book.change, thing, 1, 2)
                # Ahead of what makes no QUOTE.
                self.unharmed(Missing, "given", thing, book.change, thing, 2, 1)
                self.unharmed(Missing, "given", thing, book.take, thing)
                self.unharmed(Missing, "given", thing, book.quote, thing)
        self.book.take("a")
        for call, passed in [(self.book.change, ("a", 1, 2)), (self.book.take, ("a",)), (self.book.quote, ("a",))]:
            self.unharmed(Missing, "given", "a", call, *passed)
        with self.assertRaises(KeyError):
            self.book.quote("a")


class Undo(Case):
    def test_the_last_one_first(self):
        seen = traces(self.book)
        self.assertIsNone(self.book.undo())
        self.assertEqual(self.book.quote("b"), (BOTH, 4, 6))
        self.assertEqual(len(self.book), 2)
        self.assertEqual(traces(self.book)[1:], seen[2:])
        self.assertIsNone(self.book.undo(1))
        self.assertEqual(self.book.labels(), ("b",))
        self.assertIsNone(self.book.undo(many=1))
        self.assertEqual(self.book.book, ())
        self.assertEqual(len(self.book), 0)

    def test_several(self):
        self.book.undo(2)
        self.assertEqual(self.book.book, ((BOTH, 4, 6),))
        self.assertEqual(len(self.book), 1)
        self.book = ready()
        self.book.undo(many=3)
        self.assertEqual((self.book.book, len(self.book)), ((), 0))
        self.book.put("a", BOTH, 1, 2)
        self.assertEqual((self.book.book, len(self.book)), (((BOTH, 1, 2),), 1))

    def test_each_kind_of_deed(self):
        self.book.take("b")
        self.book.change("a", None, 5)
        self.book.undo()
        self.assertEqual(self.book.quote("a"), (CALL, None, None))
        self.book.undo()
        self.assertEqual(self.book.labels(), ("a", "b"))
        self.book.undo(2)
        self.assertEqual(self.book.labels(), ("b",))

    def test_wrong_numbers(self):
        wrong = [0, -1, -10 ** 30, "", "1", (), (1,), (1, 1), samples.Whole(1), samples.Three.THREE]
        for thing in samples.STRANGE + wrong:
            self.unharmed(BadNumber, "given", thing, self.book.undo, thing)
            self.unharmed(BadNumber, "given", thing, Pricebook(TWO).undo, thing)

    def test_nothing_left(self):
        for many in [4, 5, 100, 10 ** 30]:
            self.unharmed(NothingLeft, "many", many, self.book.undo, many)
        self.unharmed(NothingLeft, "many", 1, Pricebook(TWO).undo, 1)
        with self.assertRaises(NothingLeft) as caught:
            Pricebook(TWO).undo()
        self.assertEqual(caught.exception.many, 1)
        self.book.undo(3)
        self.unharmed(NothingLeft, "many", 1, self.book.undo, 1)

    def test_many_deeds(self):
        book = Pricebook(((3,),))
        book.put("a", (7,), None, None)
        for bid in range(300):
            book.change("a", bid % 8, None)
        self.assertEqual(len(book), 301)
        book.undo(299)
        self.assertEqual((book.quote("a"), len(book)), (((7,), 0, None), 2))


class Copies(Case):
    def test_goes_on_by_itself(self):
        other = self.book.copy()
        self.assertIs(type(other), Pricebook)
        self.assertIsNot(other, self.book)
        self.assertEqual(traces(other), traces(self.book))
        seen = traces(self.book)
        other.put("c", STAY, 3, 5)
        other.change("a", -1, 9)
        self.assertEqual(traces(self.book), seen)
        self.assertEqual(len(other), 5)
        self.book.take("b")
        self.assertEqual(other.labels(), ("a", "b", "c"))
        other.undo(5)
        self.assertEqual(other.book, ())
        self.assertEqual(self.book.labels(), ("a",))
        self.book.undo()
        self.assertEqual(traces(self.book), seen)

    def test_of_an_empty_one(self):
        other = Pricebook(THREE).copy()
        self.assertEqual((other.days, other.book, len(other)), (THREE, (), 0))
        self.unharmed(NothingLeft, "many", 1, other.undo, 1)


class Trials(Case):
    def test_behind_the_block(self):
        seen = traces(self.book)
        with self.book.trial() as one:
            self.assertIs(one, self.book)
            one.put("c", STAY, 3, 5)
            one.change("b", 5, 5)
            one.take("a")
            self.assertEqual(len(self.book), 6)
            self.assertEqual(self.book.labels(), ("b", "c"))
        self.assertEqual(traces(self.book), seen)
        self.book.undo()
        self.assertEqual(self.book.quote("b"), (BOTH, 4, 6))

    def test_nothing_done(self):
        seen = traces(self.book)
        with self.book.trial():
            pass
        self.assertEqual(traces(self.book), seen)

    def test_an_error_goes_on(self):
        seen = traces(self.book)
        for error in [ValueError("x"), KeyError(1), SureGain(None), StepError(), KeyboardInterrupt(), GeneratorExit()]:
            with self.assertRaises(type(error)) as caught:
                with self.book.trial() as one:
                    one.take("a")
                    raise error
            self.assertIs(caught.exception, error)
            self.assertEqual(traces(self.book), seen)
        with self.assertRaises(Missing):
            with self.book.trial() as one:
                one.take("a")
                one.take("a")
        self.assertEqual(traces(self.book), seen)

    def test_return_and_break(self):
        seen = traces(self.book)

        def go():
            with self.book.trial() as one:
                return one.take("a")

        self.assertEqual(go(), ((3, 20), (7, 20)))
        self.assertEqual(traces(self.book), seen)
        for _ in range(2):
            with self.book.trial() as one:
                one.undo(3)
                break
        self.assertEqual(traces(self.book), seen)

    def test_one_in_another(self):
        seen = traces(self.book)
        with self.book.trial() as one:
            one.put("c", STAY, 3, 5)
            middle = traces(self.book)
            with one.trial() as two:
                self.assertIs(two, self.book)
                two.take("c")
                two.take("a")
                with suppress(ValueError):
                    with two.trial() as three:
                        three.undo(6)
                        raise ValueError
                self.assertEqual(len(self.book), 6)
            self.assertEqual(traces(self.book), middle)
            one.undo()
            self.assertEqual(traces(self.book), seen)
            one.undo()
        self.assertEqual(traces(self.book), seen)

    def test_undo_behind_where_the_block_began(self):
        seen = traces(self.book)
        with self.book.trial() as one:
            one.undo(2)
            self.assertEqual(len(one), 1)
            one.put("z", STAY, 3, 5)
            one.put("y", STAY, 3, 5)
            one.put("x", STAY, 3, 5)
        self.assertEqual(traces(self.book), seen)
        self.book.undo(3)
        self.assertEqual(self.book.book, ())

    def test_begins_with_the_block(self):
        trial = self.book.trial()
        self.book.take("a")
        seen = traces(self.book)
        with trial as one:
            one.take("b")
            self.assertEqual(one.book, ())
        self.assertEqual(traces(self.book), seen)
        self.assertEqual(len(self.book), 4)

    def test_a_copy_made_within(self):
        with self.book.trial() as one:
            one.take("a")
            other = one.copy()
        self.assertEqual(other.labels(), ("b",))
        self.assertEqual(len(other), 4)
        self.assertEqual(self.book.labels(), ("a", "b"))


class Likeness(Case):
    def test_the_same(self):
        other = Pricebook(TWO)
        self.assertFalse(other == self.book)
        self.assertTrue(other == Pricebook(TWO))
        # In another order, by other deeds.
        other.put("a", CALL, None, None)
        self.assertFalse(other == self.book)
        other.put("b", BOTH, 3, 7)
        self.assertIs(other == self.book, True)
        self.assertIs(self.book == other, True)
        self.assertIs(self.book != other, False)
        self.assertNotEqual(len(other), len(self.book))
        self.assertTrue(self.book == self.book)
        self.assertTrue(self.book == self.book.copy())

    def test_what_is_otherwise(self):
        for deed in [
            lambda one: one.change("b", 3, 6), lambda one: one.change("b", 3, None), lambda one: one.take("a"),
            lambda one: one.put("c", CALL, None, None), lambda one: one.change("a", 0, None), lambda one: one.undo(),
            lambda one: (one.take("a"), one.put("c", CALL, None, None)),
            lambda one: (one.take("a"), one.put("a", STAY, None, None)),
        ]:
            other = self.book.copy()
            deed(other)
            self.assertIs(other == self.book, False)
            self.assertIs(self.book != other, True)
        self.assertIs(Pricebook(TWO) == Pricebook(((0,), (-1, 0, 2))), False)
        self.assertIs(Pricebook(((3,),)) == Pricebook(((4,),)), False)

    def test_other_things(self):
        for thing in samples.STRANGE + [0, 1, "", (), self.book.book, self.book.days, (TWO, ()), 3]:
            for book in [self.book, Pricebook(TWO)]:
                self.assertIs(book == thing, False)
                self.assertIs(book != thing, True)


class Under(Case):
    def test_what_the_deed_returns(self):
        seen = traces(self.book)
        self.pair(((3, 20), (7, 20)), pricebook.under(self.book.trial(), lambda one: one.take("a")))
        self.assertEqual(traces(self.book), seen)
        self.assertIs(pricebook.under(self.book.trial(), lambda one: one), self.book)
        self.assertIsNone(pricebook.under(self.book.trial(), lambda one: one.undo()))
        self.assertEqual(traces(self.book), seen)

    def test_any_manager(self):
        events = []

        @contextmanager
        def manager(given):
            events.append("in")
            try:
                yield given
            finally:
                events.append("out")

        def deed(one):
            events.append(one)
            return [one]

        self.assertEqual(pricebook.under(manager(5), deed), [5])
        self.assertEqual(events, ["in", 5, "out"])
        self.assertEqual(pricebook.under(suppress(ValueError), lambda one: (one, 1)), (None, 1))

    def test_errors(self):
        def fail(_):
            raise KeyError("x")

        self.assertIsNone(pricebook.under(suppress(KeyError), fail))
        with self.assertRaises(KeyError):
            pricebook.under(suppress(ValueError), fail)
        seen = traces(self.book)
        with self.assertRaises(Missing):
            pricebook.under(self.book.trial(), lambda one: (one.take("a"), one.take("a")))
        self.assertEqual(traces(self.book), seen)
        self.assertIsNone(pricebook.under(suppress(Missing), lambda _: self.book.take("c")))


class Facts(Case):
    def test_drawn_deeds(self):
        chance = random.Random(1)
        refused = done = 0
        for days, _ in samples.drawn_books(12, 2, [(1, 3), (2, 3), (1, 2, 3), (4,), (1, 2, 2, 2)], 0):
            if fair_paper(days, ())[0] == "gain":
                continue
            CALL_OF[days] = (1,) * len(list(product(*days)))
            book, states = Pricebook(days), [{}]
            for _ in range(25):
                result = self.deed(chance, book, states)
                refused += not result
                done += result
                self.assertEqual(book.labels(), tuple(sorted(states[-1])))
                self.assertEqual(book.book, tuple(states[-1][label] for label in sorted(states[-1])))
                self.assertEqual(len(book), len(states) - 1)
                self.assertEqual(fair_paper(days, book.book)[0], "fair")
        self.assertGreater(refused, 30)
        self.assertGreater(done, 80)

    def deed(self, chance, book, states):
        """A drawn deed; whether it was done."""
        many = len(list(product(*book.days)))
        label = chance.choice("abcdefg")
        claim = tuple(chance.randint(-5, 5) for _ in range(many))
        low, high = sorted([chance.randint(-5, 4), chance.randint(-3, 5)])
        bid, ask = chance.choice([None, low, low]), chance.choice([None, high, high])
        there = states[-1]
        kind = chance.choice(["put", "put", "put", "change", "take", "undo"])
        if kind == "undo":
            if len(states) == 1:
                self.unharmed(NothingLeft, "many", 1, book.undo, 1)
                return False
            back = chance.randint(1, min(3, len(states) - 1))
            book.undo(back)
            del states[-back:]
            return True
        if (label in there) == (kind == "put"):
            error = BadLabel if kind == "put" else Missing
            passed = {"put": (claim, bid, ask), "change": (bid, ask), "take": ()}[kind]
            self.unharmed(error, "given", label, getattr(book, kind), label, *passed)
            return False
        if kind == "put" and len(there) == 6:
            self.unharmed(TooMany, "most", 6, book.put, label, claim, bid, ask)
            return False
        claim = claim if kind == "put" else there[label][0]
        would = {name: quote for name, quote in there.items() if name != label}
        if kind != "take":
            would[label] = (claim, bid, ask)
        told = tuple(would[name] for name in sorted(would))
        passed = {"put": (label, claim, bid, ask), "change": (label, bid, ask), "take": (label,)}[kind]
        if fair_paper(book.days, told)[0] == "gain":
            self.unharmed(SureGain, "paper", told, getattr(book, kind), *passed)
            return False
        pair = getattr(book, kind)(*passed)
        self.pair((least_mean(book.days, told, claim), greatest_mean(book.days, told, claim)), pair)
        states.append(would)
        return True

    def test_bounds_behind_deeds(self):
        chance = random.Random(3)
        other = (3, -4, 7)
        book = Pricebook(TWO)
        ahead = book.bounds_of(other)
        for label in "abcde":
            claim = tuple(chance.randint(-9, 9) for _ in range(3))
            least = int(oracle.worth(book.bounds_of(claim)[0]))
            book.put(label, claim, least - 1, least + 1)
            behind = book.bounds_of(other)
            self.assertGreaterEqual(oracle.worth(behind[0]), oracle.worth(ahead[0]))
            self.assertLessEqual(oracle.worth(behind[1]), oracle.worth(ahead[1]))
            ahead = behind
        for label in book.labels():
            for deed in ["change", "take"]:
                passed = (label, book.quote(label)[1] - 1, None) if deed == "change" else (label,)
                getattr(book, deed)(*passed)
                behind = book.bounds_of(other)
                self.assertLessEqual(oracle.worth(behind[0]), oracle.worth(ahead[0]))
                self.assertGreaterEqual(oracle.worth(behind[1]), oracle.worth(ahead[1]))
                ahead = behind

    def test_put_at_its_bounds(self):
        book = Pricebook(TWO)
        book.put("a", BOTH, 4, 6)
        book.put("b", BOTH, 4, 6)
        for claim in [CALL, STAY, (5, 1, -7)]:
            self.assertEqual(book.bounds_of(claim), (least_mean(TWO, ((BOTH, 4, 6),), claim),
                                                     greatest_mean(TWO, ((BOTH, 4, 6),), claim)))


if __name__ == "__main__":
    unittest.main()
