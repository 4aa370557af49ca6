"""The section on desk.py, and points [20], [22] and [30] of what it leads."""

import random
import unittest

import oracle
import samples
import trees
from curtainsteps.bounds import greatest_mean, is_told, least_mean
from curtainsteps.desk import Desk
from curtainsteps.errors import BadDays, BadText, StepError, TooMany
from curtainsteps.pricebook import Pricebook
from curtainsteps.terms import claim_of
from curtainsteps.texts import days_text, read_term, term_text

TWO = ((0,), (-1, 0, 1))
TEXT = "0\n-1 0 1"
CALL = "above 1 0"
BOTH = "times 10 greater at 1 short at 1"
GOOD = "9" * 31


def traces(desk):
    """All that can be seen of what a Desk leads."""
    book = desk.pricebook
    seen = [(book.book, book.labels(), len(book))]
    other = book.copy()
    while len(other):
        other.undo()
        seen.append((other.book, other.labels()))
    return seen


def ready():
    """With two QUOTES."""
    desk = Desk(TEXT)
    desk.say("put b 4 6 " + BOTH)
    desk.say("put a - - " + CALL)
    return desk


class Case(samples.Case):
    def setUp(self):
        self.desk = ready()

    def says(self, *pairs):
        """The answers to lines, one after another."""
        for line, answer in pairs:
            told = self.desk.say(line)
            self.assertEqual(told, answer, line)
            self.assertIs(type(told), str)

    def no(self, *lines):
        """Each line is answered with "no", twice, and changes nothing."""
        ahead = traces(self.desk)
        for line in lines:
            self.says((line, "no"), (line, "no"))
            self.assertEqual(traces(self.desk), ahead, line)


class Making(Case):
    def test_days(self):
        for text, days in [(TEXT, TWO), ("0", ((0,),)), ("-3 7\n-3 7\n-3 7\n-3 7", ((-3, 7),) * 4)]:
            desk = Desk(text)
            self.assertEqual(desk.pricebook.days, days)
            self.assertEqual(desk.pricebook.book, ())
            self.assertEqual(desk.say("deeds"), "0")
            self.assertIs(type(desk.pricebook), Pricebook)

    def test_errors_of_reading(self):
        for thing in samples.STRANGE + [0, (), TWO, samples.Word("0")]:
            self.refuses_telling(BadText, {"line": None, "word": None}, Desk, thing)
        for text, line, word in [
            ("", 0, 0), ("x", 0, 0), ("0 ", 0, 1), ("0\n", 1, 0), ("0\n00", 1, 0), ("0\n0\n0\n0\n0", 4, 0),
            ("none", 0, 0),
            ("0 1 2 3 4 5 6 7 8", 0, 8), ("1" + GOOD, 0, 0), ("1/1", 0, 0), ("0\n1\n", 2, 0),
        ]:
            self.refuses_telling(BadText, {"line": line, "word": word}, Desk, text)

    def test_what_are_no_days(self):
        for text, given in [
            ("1 0", ((1, 0),)), ("101", ((101,),)), (GOOD, ((int(GOOD),),)),
            ("0 1 2\n" * 3 + "0 1 2", ((0, 1, 2),) * 4),
            # DAYS without a FAIR SHARE.
            ("0\n1", ((0,), (1,))), ("0\n-3 3\n2 4", ((0,), (-3, 3), (2, 4))),
        ]:
            self.refuses_telling(BadDays, {"given": given}, Desk, text)

    def test_the_very_pricebook(self):
        self.assertIs(self.desk.pricebook, self.desk.pricebook)
        self.assertIsInstance(vars(Desk)["pricebook"], property)
        with self.assertRaises(AttributeError):
            self.desk.pricebook = Pricebook(TWO)
        self.assertEqual(self.desk.pricebook.labels(), ("a", "b"))
        self.assertEqual(self.desk.pricebook.quote("b"), ((10, 0, 10), 4, 6))
        # Deeds done on it are seen.
        self.desk.pricebook.take("a")
        self.says(("labels", "b"), ("deeds", "3"), ("undo", "done"), ("labels", "a b"), ("deeds", "2"))
        self.desk.pricebook.undo(2)
        self.says(("undo", "nothing"), ("labels", "none"))
        with self.desk.pricebook.trial():
            self.says(("put x - - at 0", "0 0"), ("deeds", "1"))
        self.says(("deeds", "0"))


class Lines(Case):
    def test_a_day_at_the_desk(self):
        self.desk = Desk(TEXT)
        self.says(
            ("labels", "none"), ("deeds", "0"), ("undo", "nothing"), ("bounds " + CALL, "0 1/2"),
            ("told " + CALL, "not"),
            ("told at 1", "yes"), ("bounds at 1", "0 0"), ("put b 4 6 " + BOTH, "4 6"), ("labels", "b"),
            ("bounds " + CALL, "1/5 3/10"), ("bounds short " + CALL, "-3/10 -1/5"), ("put a - - " + CALL, "1/5 3/10"),
            ("labels", "a b"), ("deeds", "2"), ("change b 5 5", "5 5"), ("told " + CALL, "yes"),
            ("bounds " + CALL, "1/4 1/4"),
            ("take b", "0 10"), ("labels", "a"), ("deeds", "4"), ("told " + CALL, "not"), ("undo", "done"),
            ("labels", "a b"),
            ("told " + CALL, "yes"), ("undo", "done"), ("bounds " + CALL, "1/5 3/10"), ("undo", "done"),
            ("undo", "done"),
            ("undo", "nothing"), ("labels", "none"), ("deeds", "0"),
        )

    def test_bids_and_asks(self):
        for bid, ask, answer in [
            ("-", "-", "0 10"), ("4", "-", "4 10"), ("-", "6", "0 6"), ("-10000", "10000", "0 10"), ("0", "0", "0 0"),
            ("-5", "3", "0 3"), ("10", "10000", "10 10"),
        ]:
            self.desk = Desk(TEXT)
            self.says((f"put abcdefgh {bid} {ask} {BOTH}", answer), ("labels", "abcdefgh"))
            told = [None if word == "-" else int(word) for word in (bid, ask)]
            self.assertEqual(self.desk.pricebook.quote("abcdefgh"), ((10, 0, 10), *told))
            self.says((f"change abcdefgh {bid} {ask}", answer), ("deeds", "2"), ("change abcdefgh - -", "0 10"))

    def test_terms(self):
        self.says(
            ("bounds cash -7", "-7 -7"), ("told cash 0", "yes"), ("bounds if 1 0 cash 3 cash 1", "7/5 8/5"),
            ("bounds times -1 above 1 0", "-3/10 -1/5"), ("told both at 0 at 1", "yes"), ("told at 0", "yes"),
            ("bounds lesser at 1 cash 0", "-3/10 -1/5"), ("told lowest 1", "not"), ("told highest 0", "yes"),
            ("put c - - lowest 1", "-3/10 -1/5"), ("labels", "a b c"),
        )
        self.assertEqual(self.desk.pricebook.quote("c"), ((-1, 0, 0), None, None))

    def test_what_is_none_of_these(self):
        self.no(
            "", " ", "no", "what", "Labels", "LABELS", "labels ", " labels", "labels\n", "\nlabels", "labels labels",
            "labels b", "deeds ", " deeds", "deeds 1", "deeds\n", "undo ", "undo 1", "undo undo", " undo", "undo\n",
            "copy",
            "quote b", "at 0", CALL, "trial", "none", "-", "labels\ndeeds", "undo\nundo", "yes", "put", "change",
            "take",
            "bounds", "told", "put ", "take ", "bounds ", "told ", "labels\t",
        )

    def test_no_strings(self):
        for thing in samples.STRANGE + [0, 5, (), ("undo",), ["undo"], b"undo", samples.Word("undo")]:
            self.no(thing)

    def test_puts_that_are_refused(self):
        for line in [
            "put c", "put c 1", "put c 1 2", "put c 1 2 at", "put c 1 2 at 0 1", "put c 1 2 at 0 ", "put c  1 2 at 0",
            "put  c 1 2 at 0", " put c 1 2 at 0", "put c 1  2 at 0", "put c 1 2  at 0", "put c 1 2 at  0",
            "put c - - at 0\n",
            "put c - - at 0\nat 0", "put c\n- - at 0", "put c - -\nat 0",
            # LABELS: none, and one that is there.
            "put C - - at 0", "put abcdefghi - - at 0", "put c1 - - at 0", "put a - - at 0", "put - - - at 0",
            "put - - at 0",
            # BID and ASK.
            "put c 00 1 at 0", "put c -0 1 at 0", "put c +1 2 at 0", "put c 1/2 1 at 0", "put c 0 01 at 0",
            "put c x 1 at 0",
            "put c None 1 at 0", "put c -- 1 at 0", "put c 1 0 at 0", "put c 10001 - at 0", "put c - -10001 at 0",
            f"put c {GOOD} - at 0", f"put c 1{GOOD} - at 0", f"put c - {GOOD} at 0", f"put c -1{GOOD} - at 0",
            f"put c - 1{GOOD} at 0", "put c 1.0 2 at 0", "put c 1- 2 at 0",
            # TERMS, and those without a CLAIM.
            "put c - - none", "put c - - point 0 1 1", "put c - - at 4", "put c - - at 2", "put c - - cash 1001",
            "put c - - times 11 cash 1000", "put c - - cash 00", "put c - - cash 1/1", f"put c - - cash {GOOD}",
            f"put c - - cash 1{GOOD}", "put c - - " + "short " * 8 + "at 0",
            "put c - - " + "both " * 10 + "at 0 " * 10 + "at 0",
            # SURE GAINS.
            "put c 1 - at 0", "put c - -1 at 1", "put c 7 8 " + BOTH, "put c 1 - " + CALL,
        ]:
            self.no(line)
        self.says(("put c - - at 0", "0 0"))

    def test_other_lines_that_are_refused(self):
        self.no(
            "change b", "change b 1", "change b 1 2 3", "change b 1 2 ", "change b 1 2 at 0", "change  b 1 2",
            "change c 1 2",
            "change B 1 2", "change b 2 1", "change b 01 2", "change b -0 2", "change b 11 -", "change b - -1",
            "change a 1 -",
            f"change b {GOOD} -", f"change b 1{GOOD} -", "change b 1 2\n", "change b\n1 2", "change b 10001 -",
            "change - - -",
            "change abcdefghi 1 2", "change b x y",
            "take", "take ", "take c", "take B", "take b b", "take b ", "take  b", " take b", "take b\n", "take -",
            "take 1",
            "take abcdefghi",
            "bounds", "bounds ", "bounds at", "bounds at 2", "bounds at 4", "bounds at 0 0", "bounds at 00",
            "bounds  at 0",
            "bounds none", "bounds cash 1001", "bounds times 11 cash 1000", "bounds at 0\n", "bounds at 0\nat 0",
            f"bounds cash {GOOD}", f"bounds cash 1{GOOD}", "bounds b", "bounds " + "short " * 8 + "at 0",
            "told", "told ", "told at", "told at 2", "told at 4", "told at 0 0", "told -0", "told  at 0",
            "told cash 1001",
            "told times -11 cash 1000", "told at 0\n", "told b",
        )

    def test_too_many(self):
        self.desk = Desk(TEXT)
        for label in "fcadeb":
            self.says((f"put {label} - - at 1", "0 0"))
        self.no("put g - - at 1")
        self.says(("labels", "a b c d e f"), ("deeds", "6"), ("take d", "0 0"), ("put g - - at 1", "0 0"))

    def test_a_refused_line_is_no_deed(self):
        self.no("change b 11 12", "take c", "put c 1 1 at 0")
        self.says(("deeds", "2"), ("undo", "done"), ("labels", "b"), ("undo", "done"), ("undo", "nothing"))

    def test_desks_by_themselves(self):
        other = Desk(TEXT)
        self.assertEqual(other.say("labels"), "none")
        self.says(("labels", "a b"))


class Drawn(Case):
    def test_by_the_pricebook(self):
        chance = random.Random(1)
        noes = done = 0
        for days, _ in samples.drawn_books(15, 2, [(1, 3), (2, 3), (1, 2, 3), (1, 2, 2, 2)], 0):
            try:
                self.desk, book = Desk(days_text(days)), Pricebook(days)
            except BadDays:
                continue
            for _ in range(30):
                line, answer = self.drawn_line(chance, days, book)
                noes += answer == "no"
                done += answer != "no"
                self.says((line, answer))
                self.assertTrue(self.desk.pricebook == book)
                self.says(("deeds", str(len(book))), ("labels", " ".join(book.labels()) or "none"))
        self.assertGreater(noes, 20)
        self.assertGreater(done, 100)

    def pair(self, bounds):
        return " ".join(str(oracle.worth(bound)) for bound in bounds)

    def drawn_line(self, chance, days, book):
        """A line, and the answer by what a Pricebook says; the deed is done there."""
        label, term = chance.choice("abcd"), trees.drawn_term(chance, chance.randint(1, 6), 8, len(days), 4)
        low, high = sorted([chance.randint(-4, 3), chance.randint(-2, 4)])
        bid, ask = chance.choice([None, low]), chance.choice([None, high])
        kind = chance.choice(["put", "put", "put", "change", "take", "bounds", "told", "undo"])
        words = ["-" if bound is None else str(bound) for bound in (bid, ask)]
        try:
            if kind == "undo":
                line, answer = "undo", "done" if len(book) else "nothing"
                for _ in range(min(1, len(book))):
                    book.undo()
                return line, answer
            if kind in ("bounds", "told"):
                line = kind + " " + term_text(term)
                claim = claim_of(days, read_term(term_text(term)))
                if kind == "told":
                    return line, "yes" if is_told(days, book.book, claim) else "not"
                return line, self.pair((least_mean(days, book.book, claim), greatest_mean(days, book.book, claim)))
            if kind == "put":
                line = " ".join(["put", label, *words, term_text(term)])
                return line, self.pair(book.put(label, claim_of(days, term), bid, ask))
            if kind == "change":
                line = " ".join(["change", label, *words])
                return line, self.pair(book.change(label, bid, ask))
            line = "take " + label
            return line, self.pair(book.take(label))
        except (StepError, TooMany, KeyError):
            return line, "no"


if __name__ == "__main__":
    unittest.main()
