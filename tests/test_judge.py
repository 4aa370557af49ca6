"""Point [34], and the section on judge.py."""

import random
import unittest
from fractions import Fraction

import oracle
import samples
import trees
from curtainsteps.errors import BadMix, BadText
from curtainsteps.judge import judged
from curtainsteps.mixes import share_of
from curtainsteps.shadows import shadow
from curtainsteps.tables import left_table, right_table
from curtainsteps.texts import mix_text, read_mix

# One at 0, and half of it at -1 and half at 1.
ONE = "point 0 1 1"
OTHER = "spread 0 -1 1 point 0 1 1"
SHEET = ONE + "\n" + OTHER


class Case(samples.Case):
    def says(self, answers, sheet, *sayings):
        """What is judged of each SAYING."""
        self.same(tuple(answers), judged, "\n".join([sheet, *sayings]))

    def bad(self, line, word, text):
        """The text is refused there."""
        self.refuses_telling(BadText, {"line": line, "word": word}, judged, text)

    def none(self, path, text):
        """A MIX is none, at this path."""
        self.refuses_telling(BadMix, {"path": path}, judged, text)


class Sayings(Case):
    def test_none_at_all(self):
        self.says([], SHEET)
        self.says([], "none\nnone")

    def test_wider(self):
        self.says([True], SHEET, "wider")
        self.says([False], OTHER + "\n" + ONE, "wider")
        self.says([True], ONE + "\n" + ONE, "wider")
        self.says([False], ONE + "\npoint 0 2 1", "wider")
        self.says([False], ONE + "\npoint 1 1 1", "wider")
        self.says([True], "none\nnone", "wider")
        self.says([False], "none\n" + ONE, "wider")
        self.says([False], ONE + "\nnone", "wider")

    def test_within(self):
        self.says([False], SHEET, "within")
        self.says([True], ONE + "\nmixed point 0 1 1 point 5 1 1", "within")
        self.says([True], "point 0 1 2\n" + ONE, "within")
        self.says([False], "point 0 3 2\n" + ONE, "within")
        self.says([False], "mixed point 0 1 1 point 5 1 1\n" + ONE, "within")
        self.says([True], "none\n" + ONE, "within")
        self.says([True], "none\nnone", "within")
        self.says([False], ONE + "\nnone", "within")

    def test_total_and_moment(self):
        sheet = "point 50 1 1\nmixed point 3 1 2 point -1 1 3"
        self.says(
            [True, True, False, False, False, False, True, False],
            sheet, "total 5/6", "total 10/12", "total 5/7", "total -5/6", "total 1", "total 0", "moment 7/6",
            "moment 50")
        self.says([True, True, True, False], SHEET, "total 1", "total 1/1", "total 7/7", "total 2")
        self.says([True, True, True, False], SHEET, "moment 0", "moment 0/1", "moment 0/9", "moment 1")
        self.says([True, True, False], ONE + "\nnone", "total 0", "moment 0/3", "total 1")
        self.says([True, True, False], ONE + "\npoint -3 1 2", "moment -3/2", "moment -6/4", "moment 3/2")

    def test_rest(self):
        self.says(
            [True, True, True, True, True, False, False],
            SHEET, "rest 0 1/2", "rest 0 2/4", "rest -1 1", "rest -2 2", "rest 1 0", "rest 0 1", "rest 0 -1/2")
        self.says([True, True, False], SHEET, "rest 100 0", "rest -100 100", "rest -100 99")
        # What is no NUMBER.
        self.says(
            [False] * 6, SHEET, "rest 101 0", "rest -101 101", "rest 1000 0", "rest 101 0/5", "rest -1000 1000",
            "rest " + "9" * 31 + " 0")
        self.says([True, True, False], ONE + "\nnone", "rest 0 0", "rest -100 0", "rest 101 0")

    def test_steps(self):
        self.says([True, False, False, False], SHEET, "steps 2", "steps 1", "steps 0", "steps -2")
        self.says([True, False], ONE + "\n" + ONE, "steps 1", "steps 2")
        self.says([True, False], "none\nnone", "steps 0", "steps 1")
        # SHARES that are not WIDER.
        self.says([False] * 4, OTHER + "\n" + ONE, "steps 0", "steps 1", "steps 2", "steps 3")
        self.says([False, False], ONE + "\nnone", "steps 0", "steps 1")
        self.says([False, False], "none\n" + ONE, "steps 0", "steps 1")
        self.says([False], SHEET, "steps " + "9" * 31)

    def test_goes(self):
        self.says(
            [True, True, True, True, False, False, False, False],
            SHEET, "goes 0 1 1/2", "goes 0 -1 1/2", "goes 0 1 2/4", "goes 0 -1 50/100", "goes 0 0 1/2", "goes 1 0 1/2",
            "goes 0 1 1", "goes 0 1 -1/2")
        # A step that is not there has no WEIGHT, 0 neither.
        self.says([False] * 4, SHEET, "goes 0 0 0", "goes 5 5 0", "goes 101 101 0", "goes 0 " + "9" * 31 + " 1/2")
        self.says([False] * 3, OTHER + "\n" + ONE, "goes -1 0 1/2", "goes 1 0 1/2", "goes 0 0 1")
        self.says([True, False], ONE + "\n" + ONE, "goes 0 0 1", "goes 0 0 1/2")
        self.says([False], "none\nnone", "goes 0 0 1")

    def test_the_left_table(self):
        one = "mixed point 0 1 2 point 1 1 2"
        other = "mixed mixed point -1 1 4 point 0 1 4 mixed point 1 1 4 point 2 1 4"
        shares = [share_of(read_mix(text)) for text in (one, other)]
        table, right = left_table(*shares), right_table(*shares)
        self.says([True], one + "\n" + other, f"steps {len(table)}")
        for x, y, (top, bottom) in sorted({*table, *right}):
            saying = f"goes {x} {y} {3 * top}/{3 * bottom}"
            self.says([(x, y, (top, bottom)) in table], one + "\n" + other, saying)
        self.assertTrue(set(right) - set(table))

    def test_shadow(self):
        self.says([True], SHEET, "shadow")
        self.says([True], ONE + "\nmixed point -2 1 1 mixed point 2 3 1 point 5 1 1", "shadow")
        self.says([False], ONE + "\nmixed point 2 3 1 point 5 1 1", "shadow")
        self.says([False], OTHER + "\n" + ONE, "shadow")
        self.says([True, True], "none\nnone", "shadow", "wider")
        self.says([True, False], "none\n" + ONE, "shadow", "wider")
        self.says([False], ONE + "\nnone", "shadow")

    def test_several(self):
        self.says(
            [True, False, True, True, False, True], SHEET, "wider", "within", "shadow", "wider", "total 2", "steps 2")
        self.says([True] * 200 + [False], SHEET, *["shadow"] * 200, "within")

    def test_by_the_words(self):
        chance = random.Random(1)
        seen = {}
        for _ in range(150):
            mixes = [self.drawn(chance)]
            word = chance.choice(["spread", "moved", "mixed", "other", "same"])
            numbers = [number for number, _ in share_of(mixes[0])] or [0]
            middle = chance.choice(numbers)
            mixes.append({
                "spread": ("spread", mixes[0], middle, middle - chance.randint(1, 3), middle + chance.randint(1, 3)),
                "moved": ("moved", mixes[0], chance.randint(-1, 1)), "mixed": ("mixed", mixes[0], ("point", 9, 1, 2)),
                "other": self.drawn(chance), "same": ("scaled", mixes[0], chance.randint(1, 2), 2),
            }[word])
            try:
                one, other = [trees.share(mix) for mix in mixes]
            except trees.Lacks:
                continue
            sayings = self.sayings(chance, one, other)
            for saying, answer in sayings:
                seen.setdefault((saying.split(" ")[0], answer), []).append(saying)
            sheet = "\n".join(mix_text(mix) for mix in mixes)
            self.says([answer for _, answer in sayings], sheet, *[saying for saying, _ in sayings])
        self.assertEqual(len(seen), 16)
        self.assertGreater(min(len(found) for found in seen.values()), 10, {key: len(seen[key]) for key in seen})

    def drawn(self, chance):
        """A MIX that has a SHARE."""
        while True:
            mix = trees.drawn_mix(chance, chance.randint(1, 7), 5, 3)
            try:
                trees.share(mix)
                return mix
            except trees.Lacks:
                pass

    def sayings(self, chance, one, other):
        """Pairs of a SAYING and of whether it is so."""
        wider = oracle.wider(one, other)
        table = left_table(one, other) if wider else ()
        mark = chance.randint(-4, 4)
        found = [
            ("wider", wider), ("within", oracle.within(one, other)), ("shadow", shadow(one, other) is not None),
            (f"steps {len(table)}", wider), (f"steps {len(table) + 1}", False),
        ]
        for saying, value in [
            ("total", oracle.total(other)), ("moment", oracle.moment(other)),
            (f"rest {mark}", oracle.rest(other, mark)),
        ]:
            for guess in [value, value + Fraction(1, 7), oracle.total(one)]:
                by = chance.randint(1, 3)
                found.append((f"{saying} {guess.numerator * by}/{guess.denominator * by}", guess == value))
        for x, y, (top, bottom) in table:
            found += [(f"goes {x} {y} {top}/{bottom}", True), (f"goes {x} {y} {2 * top}/{bottom}", False)]
        chance.shuffle(found)
        return found


class Refusals(Case):
    def test_no_strings(self):
        for thing in samples.STRANGE + [0, 5, (), samples.Word(SHEET), (ONE, OTHER)]:
            self.bad(None, None, thing)

    def test_the_first_two_lines(self):
        self.bad(0, 0, "")
        self.bad(1, 0, ONE)
        self.bad(1, 0, "none")
        self.bad(1, 0, ONE + "\n")
        self.bad(1, 0, ONE + "\n\nwider")
        self.bad(0, 4, ONE + " 1")
        self.bad(0, 3, "point 0 1")
        self.bad(0, 3, "point 0 1\n" + OTHER + "\nwider")
        self.bad(0, 0, "wider")
        self.bad(0, 0, "\n" + SHEET)
        self.bad(1, 3, ONE + "\npoint 0 1")
        self.bad(1, 1, ONE + "\nnone none")
        self.bad(1, 0, ONE + "\nwider")
        self.bad(1, 2, ONE + "\npoint 0  1 1")
        # A line ahead counts first.
        self.bad(0, 1, "point x 1 1\npoint x 1 1\nwhat")
        self.bad(0, 1, "point x 1 1")
        self.bad(1, 1, ONE + "\npoint x 1 1\nwhat")

    def test_lines_of_sayings(self):
        for text, word in [
            ("", 0), ("what", 0), ("Wider", 0), ("wider ", 1), (" wider", 0), ("wider 1", 1), ("within 1", 1),
            ("shadow x", 1), ("total", 1), ("total ", 1), ("total x", 1), ("total 1/0", 1), ("total 1 1", 2),
            ("total -0", 1), ("total 01", 1),
            ("moment", 1), ("moment 1/-2", 1), ("moment 1/2 ", 2), ("rest", 1), ("rest 1", 2), ("rest 1/2 1", 1),
            ("rest 1 x", 2), ("rest 1 1 1", 3), ("rest -0 1", 1), ("steps", 1), ("steps 1/1", 1), ("steps 1 1", 2),
            ("steps x", 1), ("steps 1" + "0" * 31, 1), ("goes", 1), ("goes 1", 2), ("goes 1 1", 3), ("goes 1 1 1 1", 4),
            ("goes 1/2 1 1", 1), ("goes 1 1/2 1", 2), ("goes 1 1 x", 3), ("goes  1 1 1", 1), ("goes 1 1 1 ", 4),
            ("wider\t", 0), ("total 1" + "0" * 31, 1), ("rest 1" + "0" * 31 + " 1", 1), ("point 0 1 1", 0), ("none", 0),
        ]:
            self.bad(2, word, SHEET + "\n" + text)
            self.bad(4, word, SHEET + "\nwider\nsteps 2\n" + text)
            self.bad(2, word, SHEET + "\n" + text + "\nwhat")
        self.bad(3, 0, SHEET + "\nwider\n")
        self.bad(2, 0, SHEET + "\n")
        self.bad(2, 0, SHEET + "\n\nwider")

    def test_what_is_no_mix(self):
        over, odd = "moved 1 point 100 1 1", "scaled 1 1 drawn 0 1 mixed point 0 1 1 point 1 1 1"
        for first, path in [(over, ()), (odd, (1,)), ("point 0 0 1", ()), ("mixed none point 101 1 1", (2,))]:
            self.none(path, first + "\n" + ONE)
            self.none(path, ONE + "\n" + first)
            self.none(path, ONE + "\n" + first + "\nwider")
            # The first line's ahead of the second line's, both behind BadText.
            for second in [over, odd, "mixed none point 101 1 1"]:
                self.none(path, first + "\n" + second)
                self.none(path, first + "\n" + second + "\nsteps 1")
                self.bad(2, 0, first + "\n" + second + "\nwhat")
                self.bad(1, 0, first + "\n\n" + second)
            self.bad(1, 0, first)
            self.bad(1, 4, first + "\npoint 0 1 1 1")
        self.none((), " ".join(["moved 0"] * 8 + ["none"]) + "\n" + ONE)
        self.bad(0, 40, " ".join(["moved 0"] * 20 + ["none"]) + "\n" + ONE)


if __name__ == "__main__":
    unittest.main()
