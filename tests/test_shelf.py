"""Point [31], and the section on shelf.py."""

import random
import unittest
from itertools import product

import samples
import trees
from curtainsteps.errors import BadDays, BadLabel, BadTerm, Missing, TooMany
from curtainsteps.shelf import Shelf
from curtainsteps.terms import need_term

TWO = ((0,), (-1, 0, 1))
AT = ("at", 0)
CASH = ("cash", 4)
CALL = ("above", 1, 0)
BIG = ("times", ("cash", 1000), 11)
LETTERS = "abcdefghijklmnopqrstuvwxyz"


def ready():
    """With three TERMS."""
    shelf = Shelf()
    shelf.put("call", CALL)
    shelf.put("at", AT)
    shelf.put("big", BIG)
    return shelf


def full():
    """With 20 TERMS."""
    shelf = Shelf()
    for at, letter in enumerate(LETTERS[:20]):
        shelf.put(letter, ("cash", at))
    return shelf


def traces(shelf):
    """All that can be seen of a Shelf."""
    pairs = [(label, shelf.seek(label)) for label in shelf.labels()]
    return pairs, len(shelf), shelf.alike(TWO), [shelf.paying(TWO, label) for label in shelf.labels()]


class Case(samples.Case):
    def setUp(self):
        self.shelf = ready()

    def unharmed(self, error, told, call, *passed):
        """The call is refused with just this error, and leaves no trace."""
        ahead = traces(call.__self__)
        if error in (BadTerm, TooMany):
            self.refuses_telling(error, told, call, *passed)
        else:
            (attribute, thing), = told.items()
            self.refuses(error, attribute, thing, call, *passed)
        self.assertEqual(traces(call.__self__), ahead)


class Terms(Case):
    def test_empty(self):
        shelf = Shelf()
        self.same((), shelf.labels)
        self.assertEqual(len(shelf), 0)
        self.same((), shelf.alike, TWO)
        with self.assertRaises(TypeError):
            Shelf(())

    def test_put_and_seek(self):
        shelf = Shelf()
        self.assertIsNone(shelf.put("b", CALL))
        self.assertIsNone(shelf.put("a", AT))
        self.assertIsNone(shelf.put("abcdefgh", AT))
        self.same(CALL, shelf.seek, "b")
        self.same(AT, shelf.seek, "a")
        self.same(("a", "abcdefgh", "b"), shelf.labels)
        self.assertEqual(len(shelf), 3)

    def test_in_the_place_of_an_elder_one(self):
        self.assertIsNone(self.shelf.put("at", CASH))
        self.same(CASH, self.shelf.seek, "at")
        self.assertEqual(len(self.shelf), 3)
        self.same(("at", "big", "call"), self.shelf.labels)
        shelf = full()
        shelf.put("c", CALL)
        self.same(CALL, shelf.seek, "c")
        self.assertEqual(len(shelf), 20)

    def test_take(self):
        self.assertEqual(self.shelf.take("call"), CALL)
        self.same(("at", "big"), self.shelf.labels)
        self.unharmed(Missing, {"given": "call"}, self.shelf.take, "call")
        self.unharmed(Missing, {"given": "call"}, self.shelf.seek, "call")
        self.shelf.put("call", AT)
        self.same(AT, self.shelf.seek, "call")
        shelf = full()
        self.assertEqual(shelf.take("t"), ("cash", 19))
        shelf.put("z", AT)
        self.assertEqual(len(shelf), 20)

    def test_what_is_no_label(self):
        for shelf in [self.shelf, full()]:
            for thing in samples.NO_LABELS:
                self.unharmed(BadLabel, {"given": thing}, shelf.put, thing, AT)
                self.unharmed(BadLabel, {"given": thing}, shelf.put, thing, None)

    def test_what_is_no_term(self):
        for thing in trees.NO_TREES + [("none",)]:
            for label in ["at", "new"]:
                self.unharmed(BadTerm, {"path": ()}, self.shelf.put, label, thing)
                self.unharmed(BadTerm, {"path": (2,)}, self.shelf.put, label, ("both", AT, thing))
        self.unharmed(BadTerm, {"path": ()}, self.shelf.put, "new", trees.deep_term(9))
        self.unharmed(BadTerm, {"path": ()}, full().put, "new", None)

    def test_too_many(self):
        shelf = full()
        self.assertEqual(len(shelf), 20)
        self.unharmed(TooMany, {"most": 20}, shelf.put, "u", AT)
        shelf.take("a")
        shelf.put("u", AT)
        self.unharmed(TooMany, {"most": 20}, shelf.put, "a", AT)

    def test_missing(self):
        for shelf in [Shelf(), self.shelf]:
            for thing in samples.NO_LABELS + ["none", "b", "atat"]:
                self.unharmed(Missing, {"given": thing}, shelf.take, thing)
                self.unharmed(Missing, {"given": thing}, shelf.seek, thing)
                self.unharmed(Missing, {"given": thing}, shelf.paying, TWO, thing)


class Claims(Case):
    def test_alike(self):
        shelf = self.shelf
        self.same((), shelf.alike, TWO)
        shelf.put("zero", ("cash", 0))
        self.same((("at", "zero"),), shelf.alike, TWO)
        # In another form; two without a CLAIM are not alike.
        shelf.put("b", ("greater", ("at", 1), ("cash", 0)))
        shelf.put("bigger", BIG)
        shelf.put("day", ("at", 3))
        shelf.put("days", ("at", 3))
        self.same((("at", "zero"), ("b", "call")), shelf.alike, TWO)
        shelf.put("a", ("if", 1, 0, ("at", 1), ("short", AT)))
        self.same((("a", "b"), ("a", "call"), ("at", "zero"), ("b", "call")), shelf.alike, TWO)
        # By other days.
        self.same((("a", "at"), ("a", "b"), ("a", "call"), ("a", "zero"), ("at", "b"), ("at", "call"), ("at", "zero"),
                   ("b", "call"), ("b", "zero"), ("call", "zero")), shelf.alike, ((0,), (0,)))
        self.same((("b", "call"), ("day", "days")), shelf.alike, ((1,), (-5, 1, 5), (1, 2), (7, 8)))
        self.same((("at", "zero"),), shelf.alike, ((0,),))

    def test_paying(self):
        shelf = self.shelf
        self.same(("call",), shelf.paying, TWO, "at")
        self.same((), shelf.paying, TWO, "call")
        # Of what has no CLAIM itself.
        self.same((), shelf.paying, TWO, "big")
        shelf.put("top", ("cash", 1))
        shelf.put("abs", ("greater", ("at", 1), ("short", ("at", 1))))
        shelf.put("same", ("above", 1, 0))
        shelf.put("less", ("both", CALL, ("cash", -1)))
        shelf.put("day", ("at", 2))
        self.same(("abs", "same", "top"), shelf.paying, TWO, "call")
        self.same(("abs", "call", "top"), shelf.paying, TWO, "same")
        self.same(("abs", "call", "same", "top"), shelf.paying, TWO, "at")
        self.same(("abs", "at", "call", "same", "top"), shelf.paying, TWO, "less")
        self.same(("top",), shelf.paying, TWO, "abs")
        self.same((), shelf.paying, TWO, "top")
        self.same((), shelf.paying, TWO, "day")
        self.same((), shelf.paying, ((0,),), "call")

    def test_one_alone(self):
        shelf = Shelf()
        shelf.put("a", AT)
        self.same((), shelf.paying, TWO, "a")
        self.same((), shelf.alike, TWO)

    def test_by_the_words(self):
        chance = random.Random(1)
        pairs = payers = 0
        for _ in range(40):
            shelf, claims = Shelf(), {}
            days = samples.drawn_days(chance, chance.choice([(3,), (1, 3), (2, 2), (1, 2, 2)]), 2)
            for label in chance.sample(LETTERS, chance.randint(1, 20)):
                term = trees.drawn_term(chance, chance.randint(1, 5), 4, 2, 2)
                shelf.put(label, term)
                try:
                    claims[label] = trees.claim(days, need_term(term))
                except trees.Lacks:
                    claims[label] = None
            alike = tuple(
                (one, other) for one, other in sorted(product(claims, claims))
                if one < other and claims[one] is not None and claims[one] == claims[other]
            )
            pairs += len(alike)
            self.same(alike, shelf.alike, days)
            for label, claim in claims.items():
                more = () if claim is None else tuple(
                    other for other in sorted(claims) if other != label and claims[other] is not None
                    and all(high >= low for high, low in zip(claims[other], claim))
                )
                payers += len(more)
                self.same(more, shelf.paying, days, label)
        self.assertGreater(pairs, 50)
        self.assertGreater(payers, 100)

    def test_what_are_no_days(self):
        for thing in samples.NO_DAYS:
            for shelf in [Shelf(), self.shelf]:
                self.refuses(BadDays, "given", thing, shelf.alike, thing)
                # Ahead of a LABEL that is missing.
                for label in ["at", "none", None, []]:
                    self.refuses(BadDays, "given", thing, shelf.paying, thing, label)


class Likeness(Case):
    def test_what_is_in_it(self):
        for label in ["at", "big", "call"]:
            self.assertIs(label in self.shelf, True)
        for thing in samples.NO_LABELS + ["b", "atat", AT, CALL, ("at",)]:
            self.assertIs(thing in self.shelf, False)
            self.assertIs(thing in Shelf(), False)
        self.shelf.take("at")
        self.assertIs("at" in self.shelf, False)

    def test_the_same(self):
        other = Shelf()
        other.put("big", BIG)
        other.put("at", CASH)
        self.assertIs(other == self.shelf, False)
        other.put("call", CALL)
        self.assertIs(other == self.shelf, False)
        other.put("at", AT)
        self.assertIs(other == self.shelf, True)
        self.assertIs(self.shelf == other, True)
        self.assertIs(self.shelf != other, False)
        self.assertEqual(other.labels(), self.shelf.labels())
        # The same CLAIM in another form is another TERM.
        other.put("at", ("short", ("short", AT)))
        self.assertIs(other == self.shelf, False)
        other.put("at", AT)
        other.put("z", AT)
        self.assertIs(self.shelf == other, False)
        self.assertIs(Shelf() == Shelf(), True)
        self.assertIs(Shelf() == self.shelf, False)

    def test_other_things(self):
        for thing in samples.STRANGE + [0, 3, "", (), {"at": AT, "big": BIG, "call": CALL}, ("at", "big", "call")]:
            for shelf in [Shelf(), self.shelf]:
                self.assertIs(shelf == thing, False)
                self.assertIs(shelf != thing, True)

    def test_shelves_by_themselves(self):
        one, other = Shelf(), Shelf()
        one.put("a", AT)
        self.assertEqual(len(other), 0)


if __name__ == "__main__":
    unittest.main()
