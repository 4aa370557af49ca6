"""Points [32] and [33], and the section on texts.py."""

import random
import re
import unittest
from fractions import Fraction

import oracle
import samples
import trees
from curtainsteps import texts
from curtainsteps.errors import BadDays, BadMix, BadShare, BadTable, BadTerm, BadText
from curtainsteps.mixes import share_of
from curtainsteps.tables import left_table

READERS = [texts.read_term, texts.read_mix, texts.read_share, texts.read_table, texts.read_days]
INTEGER = re.compile(r"0|-?[1-9][0-9]{0,30}")
# What is no integer by its form.
NO_INTEGERS = [
    "", "-", "-0", "00", "01", "-01", "+1", "+", "1.0", "1e3", "0x1", "1_0", "x", "one", "1/2", "1/1", "--1", "1-",
    "\t1", "1" * 32, "-" + "1" * 32, "1" * 4400, "none", "cash", "(1)", "1,", "\u0661", "\u00b2", "1\r", "1\x00",
]
# What is no word for a FRACTION by its form.
NO_QUOTIENTS = [word for word in NO_INTEGERS if word not in ("1/2", "1/1")] + [
    "1/0", "1/-2", "1/-0", "1/", "/", "/1", "/2/", "1//2", "1/2/3", "1/+2", "1/02", "01/2", "-0/1", "-0/3", "+1/2",
    "1/x", "x/2", "1/" + "1" * 32, "1" * 32 + "/1", "-/2", "1/2.", "1/2/", "0/0", "-1/-2", "1/00", "00/1",
]
GOOD = "9" * 31


class Case(samples.Case):
    def reads(self, thing, read, text):
        """The text is read as the thing."""
        self.same(thing, read, text)

    def bad(self, line, word, read, text):
        """The text is refused there."""
        self.refuses_telling(BadText, {"line": line, "word": word}, read, text)


class Strings(Case):
    def test_no_strings(self):
        for thing in samples.STRANGE + [0, 5, (), ("at", 0), ("none",), samples.Word("none"), samples.Word("0"), b"0"]:
            for read in READERS:
                self.bad(None, None, read, thing)

    def test_empty_ones(self):
        for read in READERS:
            self.bad(0, 0, read, "")
            self.bad(0, 0, read, " ")
            self.bad(0, 0, read, "\n")
            self.bad(0, 0, read, "\nnone")
            self.bad(0, 0, read, " none")


class Trees(Case):
    def test_terms(self):
        for term, text in [
            (("cash", 7), "cash 7"), (("cash", -1000), "cash -1000"), (("cash", 0), "cash 0"), (("at", 3), "at 3"),
            (("above", 1, -5), "above 1 -5"), (("below", 0, 10), "below 0 10"), (("lowest", 2), "lowest 2"),
            (("highest", 0), "highest 0"), (("both", ("at", 0), ("cash", 1)), "both at 0 cash 1"),
            (("short", ("at", 0)), "short at 0"), (("times", ("at", 0), 5), "times 5 at 0"),
            (("times", ("times", ("at", 0), 5), -7), "times -7 times 5 at 0"),
            (("lesser", ("cash", 0), ("at", 1)), "lesser cash 0 at 1"),
            (("greater", ("short", ("cash", 0)), ("at", 1)), "greater short cash 0 at 1"),
            (("if", 1, -3, ("at", 0), ("cash", 9)), "if 1 -3 at 0 cash 9"),
            (("if", 0, 1, ("times", ("at", 2), 3), ("if", 3, 4, ("cash", 5), ("cash", 6))),
             "if 0 1 times 3 at 2 if 3 4 cash 5 cash 6"),
        ]:
            self.same(text, texts.term_text, term)
            self.reads(term, texts.read_term, text)

    def test_mixes(self):
        for mix, text in [
            (("point", 0, 1, 2), "point 0 1 2"), (("point", -100, 1000, 1), "point -100 1000 1"), (("none",), "none"),
            (("point", 5, 2, 4), "point 5 2 4"), (("mixed", ("none",), ("none",)), "mixed none none"),
            (("mixed", ("point", 0, 1, 2), ("none",)), "mixed point 0 1 2 none"),
            (("moved", ("none",), -200), "moved -200 none"),
            (("scaled", ("point", 0, 1, 1), 2, 3), "scaled 2 3 point 0 1 1"),
            (("spread", ("point", 0, 1, 1), 0, -1, 2), "spread 0 -1 2 point 0 1 1"),
            (("drawn", ("point", 0, 1, 1), -5, 6), "drawn -5 6 point 0 1 1"),
            (("mixed", ("moved", ("point", 0, 1, 1), 4), ("scaled", ("none",), 1, 2)),
             "mixed moved 4 point 0 1 1 scaled 1 2 none"),
        ]:
            self.same(text, texts.mix_text, mix)
            self.reads(mix, texts.read_mix, text)

    def test_drawn_ones(self):
        chance = random.Random(1)
        for _ in range(200):
            term = trees.drawn_term(chance, chance.randint(1, 20), 8, 4, 1000)
            text = texts.term_text(term)
            self.assertEqual(len([word for word in text.split(" ") if word.isalpha()]), trees.size(term, trees.TERMS))
            self.reads(term, texts.read_term, text)
            mix = trees.drawn_mix(chance, chance.randint(1, 20))
            try:
                text = texts.mix_text(mix)
            except BadMix as caught:
                self.refuses_telling(BadMix, {"path": caught.path}, texts.mix_text, mix)
                continue
            self.reads(mix, texts.read_mix, text)

    def test_errors_of_the_arguments(self):
        for thing in trees.NO_TREES:
            for call, error, pair in [(texts.term_text, BadTerm, "both"), (texts.mix_text, BadMix, "mixed")]:
                self.refuses_telling(error, {"path": ()}, call, thing)
                self.refuses_telling(error, {"path": (1,)}, call, (pair, thing, thing))
        self.refuses_telling(BadTerm, {"path": ()}, texts.term_text, trees.deep_term(9))
        self.refuses_telling(BadTerm, {"path": ()}, texts.term_text, trees.full_term(21))
        self.refuses_telling(BadMix, {"path": ()}, texts.mix_text, trees.deep_mix(9))
        self.refuses_telling(BadMix, {"path": (1,)}, texts.mix_text, ("moved", ("moved", ("point", 100, 1, 1), 1), -1))

    def test_words_that_cannot_stand(self):
        for read, text, other in [
            (texts.read_term, "if 1 -3 times 5 at 0 both cash 9 short lowest 2", "point"),
            (texts.read_mix, "mixed spread 0 -1 2 point 0 1 1 mixed none scaled 3 4 moved 5 point 7 8 9", "cash"),
        ]:
            words = text.split(" ")
            read(text)
            for at, word in enumerate(words):
                wrong = NO_INTEGERS if INTEGER.fullmatch(word) else ["5", "-", word + "s", word.upper(), word + "\t"]
                for thing in [*wrong, "", other, "what"]:
                    # As a MIX "none" can stand.
                    if INTEGER.fullmatch(word) or thing != "none":
                        told = words[:at] + [thing] + words[at + 1:]
                        self.bad(0, at, read, " ".join(told))
                        # The first one counts.
                        self.bad(0, at, read, " ".join(told + ["more"]) + "\nmore")

    def test_too_few_and_too_many(self):
        for read, text in [
            (texts.read_term, "if 1 -3 times 5 at 0 both cash 9 short lowest 2"),
            (texts.read_mix, "mixed spread 0 -1 2 point 0 1 1 mixed none scaled 3 4 moved 5 point 7 8 9"),
        ]:
            words = text.split(" ")
            for many in range(1, len(words)):
                self.bad(0, many, read, " ".join(words[:many]))
                self.bad(0, many, read, " ".join(words[:many]) + "\n" + " ".join(words[many:]))
                # Two spaces: the word between is "".
                self.bad(0, many, read, " ".join(words[:many]) + "  " + " ".join(words[many:]))
            for thing in ["", "0", "none", "at", "x"]:
                self.bad(0, len(words), read, text + " " + thing)
                self.bad(0, len(words), read, text + " " + thing + "\n")
                self.bad(1, 0, read, text + "\n" + thing)
                self.bad(1, 0, read, text + "\n" + thing + " " + text)
            self.bad(1, 0, read, text + "\n")
            self.bad(1, 0, read, text + "\n\n")
            self.bad(0, 0, read, "\n" + text)
            self.bad(0, 0, read, " " + text)

    def test_none_as_a_mix(self):
        self.reads(("none",), texts.read_mix, "none")
        self.bad(0, 1, texts.read_mix, "none none")
        self.bad(0, 1, texts.read_mix, "none ")
        self.bad(1, 0, texts.read_mix, "none\n")
        self.bad(1, 0, texts.read_mix, "none\nnone")
        self.reads(("moved", ("none",), 0), texts.read_mix, "moved 0 none")
        self.bad(0, 0, texts.read_term, "none")
        self.bad(0, 1, texts.read_term, "short none")

    def test_20_words_and_the_21st(self):
        for read, leaf, pair in [(texts.read_term, "at 0", "both"), (texts.read_mix, "point 5 1 2", "mixed")]:
            one = "short" if pair == "both" else "moved 0"
            # 19 words as flat as can be, and one.
            flat = (trees.full_term if pair == "both" else trees.full_mix)(20)
            text = (texts.term_text if pair == "both" else texts.mix_text)(flat)
            self.reads(flat, read, text)
            # 10 times a pair opened: the 21st word would be needed, or stands there.
            words = " ".join([pair] * 10 + [leaf] * 10).split(" ")
            for last in ["", " " + leaf, " " + one, " x", " 0", " ", " none"]:
                self.bad(0, len(words), read, " ".join(words) + last)
            deep = " ".join([pair] * 20 + [leaf])
            self.bad(0, 20, read, deep)
            self.bad(0, 20, read, " ".join([pair] * 20))
            self.bad(0, 19, read, " ".join([pair] * 19))

    def test_what_has_the_form(self):
        for text, path in [
            ("cash 1001", ()), ("cash -1001", ()), ("cash " + GOOD, ()), ("cash -" + GOOD, ()), ("at 4", ()),
            ("at -1", ()), ("both at 4 cash 1001", (1,)), ("both at 0 cash 1001", (2,)), ("times 1001 at 4", ()),
            ("times 5 at 4", (1,)),
            ("if 4 0 at 9 at 9", ()), ("if 3 0 at 3 at 9", (4,)), (" ".join(["short"] * 8 + ["at 0"]), ()),
            (" ".join(["short"] * 8 + ["at 9"]), ()), (" ".join(["short"] * 7 + ["at 9"]), (1,) * 7),
            (" ".join(["short"] * 19 + ["at 0"]), ()),
        ]:
            self.refuses_telling(BadTerm, {"path": path}, texts.read_term, text)
        for text, path in [
            ("point 101 1 1", ()), ("point 0 0 1", ()), ("point 0 1 0", ()), ("point 0 1 " + GOOD, ()),
            ("point 0 -1 1", ()),
            ("mixed point 0 0 1 point 0 1 0", (1,)), ("mixed none point 0 1 0", (2,)), ("moved 201 none", ()),
            ("moved 5 point 99 1 1", ()), ("mixed moved 5 point 99 1 1 moved 5 point 99 1 1", (1,)),
            ("drawn 1 0 none", ()),
            ("spread 0 0 1 none", ()), ("spread 0 1 -1 none", ()), ("drawn 0 1 mixed point 0 1 1 point 1 1 1", ()),
            ("moved 1 drawn 0 1 mixed point 0 1 1 point 1 1 1", (1,)), (" ".join(["moved 0"] * 8 + ["none"]), ()),
            ("mixed moved 5 point 99 1 1 point 0 0 1", (2,)),
        ]:
            self.refuses_telling(BadMix, {"path": path}, texts.read_mix, text)
        # BadText ahead of these.
        self.bad(0, 2, texts.read_term, "cash 1001 ")
        self.bad(1, 0, texts.read_term, "cash 1001\n")
        self.bad(0, 3, texts.read_term, "both at 4")
        self.bad(0, 1, texts.read_term, "cash 1" + GOOD)
        self.bad(0, 9, texts.read_term, " ".join(["short"] * 8 + ["at"]))
        self.bad(0, 4, texts.read_mix, "point 0 0 1 1")
        self.bad(1, 0, texts.read_mix, "drawn 1 0 none\n")
        self.bad(0, 3, texts.read_mix, "drawn 1 0")

    def test_by_what_is_wanted(self):
        chance = random.Random(2)
        seen = set()
        for read, words in [(texts.read_term, trees.TERMS), (texts.read_mix, trees.MIXES)]:
            for _ in range(1500):
                told = self.drawn_words(chance, words)
                at = wanted(told, words)
                seen.add(at)
                if at is None:
                    try:
                        read(" ".join(told))
                    except (BadTerm, BadMix):
                        pass
                else:
                    self.bad(0, at, read, " ".join(told))
        self.assertGreater(len(seen), 30)

    def drawn_words(self, chance, words):
        """Words that mostly fit, with a fault now and then."""
        told, waiting = [], ["S"]
        while waiting and len(told) < 90:
            kind = waiting.pop()
            if chance.random() < 0.01:
                break
            if chance.random() < 0.02:
                told.append(chance.choice(["", "x", "1", "-0", "at", "none", "point", "1/2"]))
                continue
            if kind == "S":
                few = [word for word in words if "S" not in words[word]]
                word = chance.choice(list(words) if chance.random() < 0.7 else few)
                told.append(word)
                waiting += ["S"] * words[word].count("S") + [0] * (len(words[word]) - words[word].count("S"))
            else:
                told.append(str(chance.randint(-2, 9)))
        return told + (["more"] if chance.random() < 0.05 else [])


def wanted(told, words):
    """The number of the first word that cannot stand, by what is still wanted; None if all is right."""
    waiting, count = ["S"], 0
    for at, word in enumerate(told or [""]):
        if not waiting:
            return at
        if waiting.pop() == "S":
            count += 1
            if count > 20 or word not in words:
                return at
            kids = words[word].count("S")
            waiting += ["S"] * kids + [0] * (len(words[word]) - kids)
        elif not INTEGER.fullmatch(word):
            return at
    return len(told or [""]) if waiting else None


class Shares(Case):
    def test_texts(self):
        for share, text in [
            ((), "none"), (((0, (1, 1)),), "0 1"), (((-5, (1, 2)), (7, (3, 1))), "-5 1/2 7 3"),
            (((-100, (10 ** 40, 7)), (100, (7, 10 ** 40))), f"-100 {10 ** 40}/7 100 7/{10 ** 40}"),
            (tuple((number, (number + 1, 3 * number + 4)) for number in range(8)),
             "0 1/4 1 2/7 2 3/10 3 4/13 4 5/16 5 6/19 6 7/22 7 8/25"),
        ]:
            self.same(text, texts.share_text, share)
            if len(text) < 70:
                self.reads(share, texts.read_share, text)
        for thing in samples.NO_SHARES:
            self.refuses(BadShare, "given", thing, texts.share_text, thing)

    def test_drawn_ones(self):
        chance = random.Random(3)
        for _ in range(100):
            share = samples.drawn_share(chance)
            self.reads(share, texts.read_share, texts.share_text(share))
        for many in (1, 8, 15):
            mix = trees.full_mix(many)
            self.reads(share_of(mix), texts.read_share, texts.share_text(share_of(mix)))

    def test_figures(self):
        self.reads(((0, (int(GOOD), 1)),), texts.read_share, "0 " + GOOD)
        self.reads(((0, (int(GOOD) - 1, int(GOOD))),), texts.read_share, "0 " + GOOD[:-1] + "8/" + GOOD)
        self.bad(0, 1, texts.read_share, "0 1" + GOOD)
        self.bad(0, 1, texts.read_share, "0 1/1" + GOOD)
        self.bad(0, 0, texts.read_share, "1" + GOOD + " 1")
        self.refuses_telling(BadShare, {"given": ((int(GOOD), (1, 1)),)}, texts.read_share, GOOD + " 1")
        self.refuses_telling(BadShare, {"given": ((-int(GOOD), (1, 1)),)}, texts.read_share, "-" + GOOD + " 1")

    def test_words_that_cannot_stand(self):
        words = "-5 1/2 7 3 9 22/7".split(" ")
        for at in range(len(words)):
            for thing in NO_QUOTIENTS if at % 2 else NO_INTEGERS:
                if at or thing != "none":
                    self.bad(0, at, texts.read_share, " ".join(words[:at] + [thing] + words[at + 1:]))
        self.bad(0, 1, texts.read_share, "none 1 2")
        for many in (1, 3, 5):
            self.bad(0, many, texts.read_share, " ".join(words[:many]))
            self.bad(0, many, texts.read_share, " ".join(words[:many]) + "\n")
        for text in ["-5 1/2 7 3", "-5 1/2"]:
            many = len(text.split(" "))
            self.bad(0, many, texts.read_share, text + " ")
            self.bad(0, many, texts.read_share, text + " none")
            self.bad(0, many + 1, texts.read_share, text + " 50")
            self.bad(1, 0, texts.read_share, text + "\n")
            self.bad(1, 0, texts.read_share, text + "\n9 1")
            self.bad(0, 1, texts.read_share, text.replace(" ", "  ", 1))
            self.bad(0, 0, texts.read_share, " " + text)
            self.bad(0, 0, texts.read_share, "\n" + text)

    def test_eight_pairs_and_the_ninth(self):
        eight = " ".join(f"{number} 1" for number in range(8))
        self.reads(tuple((number, (1, 1)) for number in range(8)), texts.read_share, eight)
        for more in [" 8 1", " 8", " ", " none", " x", " 8 1 9 1"]:
            self.bad(0, 16, texts.read_share, eight + more)
        self.bad(1, 0, texts.read_share, eight + "\n")

    def test_none(self):
        self.reads((), texts.read_share, "none")
        for more in [" ", " none", " 1", " 1 1", " x", " \n", " none\nnone"]:
            self.bad(0, 1, texts.read_share, "none" + more)
        for more in ["\n", "\nnone", "\n1 1", "\n\n", "\nx"]:
            self.bad(1, 0, texts.read_share, "none" + more)
        for text in ["None", "nones", "NONE", "-none"]:
            self.bad(0, 0, texts.read_share, text)
        self.bad(0, 2, texts.read_share, "1 1 none")
        self.bad(0, 1, texts.read_share, "1 none")

    def test_what_has_the_form(self):
        for text, given in [
            ("0 2/4", ((0, (2, 4)),)), ("0 0", ((0, (0, 1)),)), ("0 -1", ((0, (-1, 1)),)), ("0 0/5", ((0, (0, 5)),)),
            ("0 -2/4", ((0, (-2, 4)),)), ("1 1 0 1", ((1, (1, 1)), (0, (1, 1)))),
            ("0 1 0 1", ((0, (1, 1)), (0, (1, 1)))),
            ("101 1", ((101, (1, 1)),)), ("-101 1/2", ((-101, (1, 2)),)), ("0 1 5 10/2", ((0, (1, 1)), (5, (10, 2)))),
        ]:
            self.refuses_telling(BadShare, {"given": given}, texts.read_share, text)
        self.reads(((0, (3, 1)),), texts.read_share, "0 3/1")
        # BadText ahead of these.
        self.bad(0, 3, texts.read_share, "0 2/4 1")
        self.bad(1, 0, texts.read_share, "0 2/4\n")


class Tables(Case):
    def test_texts(self):
        for table, text in [
            ((), "none"), (((0, 0, (1, 1)),), "0 0 1"), (((0, -1, (1, 2)), (0, 1, (1, 2))), "0 -1 1/2\n0 1 1/2"),
            (((-7, -7, (3, 1)), (0, -2, (1, 3)), (0, 1, (2, 3))), "-7 -7 3\n0 -2 1/3\n0 1 2/3"),
        ]:
            self.same(text, texts.table_text, table)
            self.reads(table, texts.read_table, text)
        for thing in samples.NO_TABLES:
            self.refuses(BadTable, "given", thing, texts.table_text, thing)

    def test_drawn_ones(self):
        for one, other in samples.drawn_pairs(60, 4):
            table = left_table(one, other)
            self.assertEqual(len(texts.table_text(table).split("\n")), len(table))
            self.reads(table, texts.read_table, texts.table_text(table))

    def test_64_lines_and_the_65th(self):
        table = samples.full_table()
        text = texts.table_text(table)
        self.reads(table, texts.read_table, text)
        for more in ["", "none", "5 5 1", "x", "5 5 1 1", "\n", " "]:
            self.bad(64, 0, texts.read_table, text + "\n" + more)
        # What cannot stand in a line ahead counts first.
        self.bad(63, 3, texts.read_table, text + " \n")
        self.bad(0, 0, texts.read_table, "\n" + text)

    def test_words_that_cannot_stand(self):
        lines = ["-7 -7 3", "0 -2 1/3", "0 1 2/3"]
        for number, line in enumerate(lines):
            words = line.split(" ")

            def spoilt(told):
                return "\n".join(lines[:number] + [told] + lines[number + 1:])

            for at in range(3):
                for thing in NO_QUOTIENTS if at == 2 else NO_INTEGERS:
                    if thing != "none" or number or at:
                        self.bad(number, at, texts.read_table, spoilt(" ".join(words[:at] + [thing] + words[at + 1:])))
                self.bad(number, at, texts.read_table, spoilt(" ".join(words[:at])))
            for more in [" ", " 1", " none", "  "]:
                self.bad(number, 3, texts.read_table, spoilt(line + more))
            self.bad(number, 1, texts.read_table, spoilt(line.replace(" ", "  ", 1)))
        self.bad(3, 0, texts.read_table, "\n".join(lines) + "\n")
        self.bad(1, 0, texts.read_table, "0 0 1\n")
        self.bad(1, 0, texts.read_table, "0 0 1\nnone")
        # The first one counts.
        self.bad(1, 2, texts.read_table, "0 0 1\n0 0 x\nx")

    def test_none(self):
        self.reads((), texts.read_table, "none")
        for more in [" ", " none", " 1", " 1 1", " \n"]:
            self.bad(0, 1, texts.read_table, "none" + more)
        for more in ["\n", "\nnone", "\n1 1 1", "\n\n"]:
            self.bad(1, 0, texts.read_table, "none" + more)
        self.bad(0, 1, texts.read_table, "0 none 1")
        self.bad(0, 2, texts.read_table, "0 0 none")

    def test_what_has_the_form(self):
        for text, given in [
            ("0 0 2/4", ((0, 0, (2, 4)),)), ("0 1 1", ((0, 1, (1, 1)),)), ("0 0 0", ((0, 0, (0, 1)),)),
            ("1 1 1\n0 0 1", ((1, 1, (1, 1)), (0, 0, (1, 1)))), ("101 101 1", ((101, 101, (1, 1)),)),
            ("0 0 1\n0 0 2", ((0, 0, (1, 1)), (0, 0, (2, 1)))), ("0 0 -1/2", ((0, 0, (-1, 2)),)),
            (f"{GOOD} 0 1", ((int(GOOD), 0, (1, 1)),)), (f"0 0 {GOOD}/{GOOD}", ((0, 0, (int(GOOD), int(GOOD))),)),
            ("\n".join(f"{number} {number} 1" for number in range(9)), tuple((n, n, (1, 1)) for n in range(9))),
        ]:
            self.refuses_telling(BadTable, {"given": given}, texts.read_table, text)
        self.reads(((0, 0, (3, 1)),), texts.read_table, "0 0 3/1")
        self.bad(1, 0, texts.read_table, "0 0 2/4\n")
        self.bad(1, 1, texts.read_table, "0 1 1\n0")
        self.bad(0, 0, texts.read_table, f"1{GOOD} 0 1")
        self.bad(0, 1, texts.read_table, f"0 -1{GOOD} 1")


class Days(Case):
    def test_texts(self):
        for days, text in [
            (((0,),), "0"), (((-1, 0, 1),), "-1 0 1"), (((0,), (-1, 0, 1)), "0\n-1 0 1"),
            (((-100, 100), (5,), (0, 7), (-3, -2, -1)), "-100 100\n5\n0 7\n-3 -2 -1"),
            ((tuple(range(8)), (0, 1, 2, 3)), "0 1 2 3 4 5 6 7\n0 1 2 3"),
        ]:
            self.same(text, texts.days_text, days)
            self.reads(days, texts.read_days, text)
        for thing in samples.NO_DAYS:
            self.refuses(BadDays, "given", thing, texts.days_text, thing)

    def test_drawn_ones(self):
        chance = random.Random(5)
        for sizes in [(1,), (8,), (2, 3), (4, 8), (3, 3, 3), (2, 2, 2, 4), (1, 1, 1, 8)] * 5:
            days = samples.drawn_days(chance, sizes, 100)
            self.reads(days, texts.read_days, texts.days_text(days))

    def test_words_that_cannot_stand(self):
        lines = ["-5 0 5", "7", "-1 1"]
        for number, line in enumerate(lines):
            words = line.split(" ")
            for at in range(len(words)):
                for thing in NO_INTEGERS:
                    told = lines[:number] + [" ".join(words[:at] + [thing] + words[at + 1:])] + lines[number + 1:]
                    self.bad(number, at, texts.read_days, "\n".join(told))
            for more in [" ", " x", " 9/2"]:
                told = lines[:number] + [line + more] + lines[number + 1:]
                self.bad(number, len(words), texts.read_days, "\n".join(told))
            self.bad(number, 0, texts.read_days, "\n".join(lines[:number] + [" " + line] + lines[number + 1:]))
            self.bad(number, 0, texts.read_days, "\n".join(lines[:number] + [""] + lines[number + 1:]))
        self.bad(3, 0, texts.read_days, "\n".join(lines) + "\n")
        self.bad(0, 1, texts.read_days, "1  2")
        self.bad(0, 0, texts.read_days, "none")
        self.bad(1, 0, texts.read_days, "0\nnone")

    def test_lines_and_integers_too_many(self):
        four = "0\n0\n0\n0"
        self.reads(((0,),) * 4, texts.read_days, four)
        for more in ["", "0", "x", "\n", "0 x"]:
            self.bad(4, 0, texts.read_days, four + "\n" + more)
        eight = "0 1 2 3 4 5 6 7"
        self.reads((tuple(range(8)),), texts.read_days, eight)
        for more in ["8", "", "x", "8 9"]:
            self.bad(0, 8, texts.read_days, eight + " " + more)
            self.bad(1, 8, texts.read_days, "0\n" + eight + " " + more + "\n0")
        self.bad(3, 8, texts.read_days, "0\n0\n0\n" + eight + " 8\n0")
        self.bad(4, 0, texts.read_days, "0\n0\n0\n" + eight + "\n0")

    def test_what_has_the_form(self):
        for text, given in [
            ("1 0", ((1, 0),)), ("0 0", ((0, 0),)), ("101", ((101,),)), ("0\n-101", ((0,), (-101,))),
            ("0\n" + GOOD, ((0,), (int(GOOD),))), ("-" + GOOD, ((-int(GOOD),),)),
            ("0 1 2 3 4\n0 1 2 3 4 5 6", (tuple(range(5)), tuple(range(7)))),
            ("0 1 2\n0 1 2\n0 1 2\n0 1 2", ((0, 1, 2),) * 4),
        ]:
            self.refuses_telling(BadDays, {"given": given}, texts.read_days, text)
        self.bad(0, 0, texts.read_days, "1" + GOOD)
        self.bad(1, 0, texts.read_days, "1 0\n")
        self.bad(1, 1, texts.read_days, "1 0\n0 ")


class Fractions(Case):
    def test_by_their_words(self):
        for word, given in [
            ("0", (0, 1)), ("5", (5, 1)), ("-5", (-5, 1)), ("1/2", (1, 2)), ("2/4", (2, 4)), ("-3/7", (-3, 7)),
            ("3/1", (3, 1)), ("0/1", (0, 1)), ("0/7", (0, 7)), ("10/20", (10, 20)),
            (f"{GOOD}/{GOOD}", (int(GOOD),) * 2),
            (f"-{GOOD}/10", (-int(GOOD), 10)),
        ]:
            if Fraction(*given) > 0 and oracle.told(Fraction(*given)) == given:
                self.reads(((0, given),), texts.read_share, "0 " + word)
            else:
                self.refuses_telling(BadShare, {"given": ((0, given),)}, texts.read_share, "0 " + word)


if __name__ == "__main__":
    unittest.main()
