"""Point [11], and the section on kinds.py."""

import random
import unittest

import oracle
import samples
from curtainsteps import kinds
from curtainsteps.errors import BadCosts, BadPaper, BadShare
from curtainsteps.tables import left_table, right_table, table_by

ONE, OTHER, COSTS = samples.ONE, samples.OTHER, samples.COSTS
CALLS = [kinds.bends_up, kinds.bends_down, kinds.kind_of, kinds.kind_paper]
PAPERS = [("down",), ("up",), ("straight",)]


def unit(*numbers):
    return tuple((number, (1, 1)) for number in numbers)


def bent(one, other, by):
    """COSTS by the two NUMBERS of a step."""
    return tuple(tuple(by(x, y) for y, _ in other) for x, _ in one)


def straight(chance, one, other):
    """COSTS of what X costs, what Y costs, and X's own times Y."""
    starts = [chance.randint(-300, 300) for _ in one]
    ends = [chance.randint(-300, 300) for _ in other]
    slopes = [chance.randint(-6, 6) for _ in one]
    return tuple(
        tuple(start + end + slope * y for end, (y, _) in zip(ends, other)) for start, slope in zip(starts, slopes)
    )


THREE = unit(-3, 1, 2)
FIVE = unit(-9, -7, 0, 4, 5)
DOWN = bent(THREE, FIVE, lambda x, y: -x * y * y)
UP = bent(THREE, FIVE, lambda x, y: x * y * y)
# Bends up at (0, 0) and (1, 1), down at (0, 1), (1, 0) and (1, 2), straight at (0, 2).
MIXED = ((0, 0, 0, 0, 0), (0, 0, 7, 7, 7), (0, 0, 0, 4, 5))


class Bends(samples.Case):
    def test_plain_values(self):
        self.same(((0, 0), (0, 1), (0, 2), (1, 0), (1, 1), (1, 2)), kinds.bends_down, THREE, FIVE, DOWN)
        self.same((), kinds.bends_up, THREE, FIVE, DOWN)
        self.same(((0, 0), (0, 1), (0, 2), (1, 0), (1, 1), (1, 2)), kinds.bends_up, THREE, FIVE, UP)
        self.same((), kinds.bends_down, THREE, FIVE, UP)
        self.same("down", kinds.kind_of, THREE, FIVE, DOWN)
        self.same("up", kinds.kind_of, THREE, FIVE, UP)

    def test_mixed_values(self):
        self.same(((0, 0), (1, 1)), kinds.bends_up, unit(1, 2, 3), unit(1, 2, 3, 4, 5), MIXED)
        self.same(((0, 1), (1, 0), (1, 2)), kinds.bends_down, unit(1, 2, 3), unit(1, 2, 3, 4, 5), MIXED)
        self.same(None, kinds.kind_of, unit(1, 2, 3), unit(1, 2, 3, 4, 5), MIXED)
        self.same(("mixed", 0, 0, 0, 1), kinds.kind_paper, unit(1, 2), unit(1, 2, 3, 4, 5), MIXED[:2])

    def test_distances_count(self):
        # The same rise bends up, down or nowhere, as the middle number lies.
        rows = ((0, 0, 0), (0, 1, 3))
        self.same("straight", kinds.kind_of, unit(0, 1), unit(0, 1, 3), rows)
        self.same("up", kinds.kind_of, unit(0, 1), unit(0, 2, 3), rows)
        self.same("down", kinds.kind_of, unit(0, 1), unit(0, 1, 4), rows)
        # Distances between the starts do not, and no rise of two rows that are not neighbours.
        self.same("up", kinds.kind_of, unit(-100, 100), unit(0, 2, 3), rows)
        self.same(((0, 0),), kinds.bends_up, unit(0, 1, 2), unit(0, 1, 2), ((0, 0, 0), (0, 0, 1), (0, 0, 1)))
        self.same((), kinds.bends_down, unit(0, 1, 2), unit(0, 1, 2), ((0, 0, 0), (0, 0, 1), (0, 0, 1)))

    def test_too_few_pairs_are_straight(self):
        chance = random.Random(1)
        for many in range(4):
            for other in range(4):
                one, end = unit(*range(many)), unit(*range(other))
                costs = samples.drawn_costs(chance, one, end)
                places = many >= 2 and other >= 3
                found = kinds.bends_up(one, end, costs) + kinds.bends_down(one, end, costs)
                self.assertEqual(found != (), places)
                if not places:
                    self.same("straight", kinds.kind_of, one, end, costs)
                    self.same(("straight",), kinds.kind_paper, one, end, costs)
                    for paper in PAPERS:
                        self.same(paper[0], kinds.check_kind, one, end, costs, paper)

    def test_by_slopes(self):
        chance = random.Random(2)
        words = set()
        for _ in range(300):
            one, other = samples.drawn_share(chance, 5), samples.drawn_share(chance)
            most = chance.choice([1, 2, 1000])
            costs = samples.drawn_costs(chance, one, other, most)
            up, down = oracle.bends(one, other, costs, 1), oracle.bends(one, other, costs, -1)
            self.same(up, kinds.bends_up, one, other, costs)
            self.same(down, kinds.bends_down, one, other, costs)
            word = {(0, 0): "straight", (1, 0): "up", (0, 1): "down", (1, 1): None}[bool(up), bool(down)]
            self.same(word, kinds.kind_of, one, other, costs)
            paper = kinds.kind_paper(one, other, costs)
            self.assertEqual(paper[0], word or "mixed")
            self.same(paper[0], kinds.check_kind, one, other, costs, paper)
            self.assertEqual(paper, kinds.kind_paper(one, other, costs))
            words.add(word)
        self.assertEqual(words, {"straight", "up", "down", None})

    def test_straight_ones(self):
        chance = random.Random(3)
        for one, other in samples.drawn_pairs(30, 4):
            costs = straight(chance, one, other)
            self.same("straight", kinds.kind_of, one, other, costs)
            answers = {oracle.cost(one, other, costs, call(one, other)) for call in (left_table, right_table)}
            answers.add(oracle.cost(one, other, costs, table_by(one, other, tuple(range(len(one)))[::-1])))
            self.assertEqual(len(answers), 1)


class Papers(samples.Case):
    def test_of_one_kind(self):
        for one, other, costs, holding in [
            (THREE, FIVE, DOWN, ["down"]), (THREE, FIVE, UP, ["up"]), (unit(1, 2, 3), unit(1, 2, 3, 4, 5), MIXED, []),
            (THREE, FIVE, ((0,) * 5,) * 3, ["down", "up", "straight"]), ((), (), (), ["down", "up", "straight"]),
        ]:
            for paper in PAPERS:
                if paper[0] in holding:
                    self.same(paper[0], kinds.check_kind, one, other, costs, paper)
                else:
                    self.refuses_part(BadPaper, paper[0], kinds.check_kind, one, other, costs, paper)

    def test_mixed(self):
        one, other = unit(1, 2, 3), unit(1, 2, 3, 4, 5)
        ups, downs = kinds.bends_up(one, other, MIXED), kinds.bends_down(one, other, MIXED)
        span = range(-1, 4)
        for place in [(i, j, k, m) for i in span for j in span for k in span for m in span]:
            paper = ("mixed", *place)
            if place[:2] in ups and place[2:] in downs:
                self.assertEqual(kinds.check_kind(one, other, MIXED, paper), "mixed")
            else:
                self.refuses_part(BadPaper, "mixed", kinds.check_kind, one, other, MIXED, paper)
        for costs in [DOWN, UP, ((0,) * 5,) * 3]:
            self.refuses_part(BadPaper, "mixed", kinds.check_kind, THREE, FIVE, costs, ("mixed", 0, 0, 0, 0))
            self.refuses_part(BadPaper, "mixed", kinds.check_kind, THREE, FIVE, costs, ("mixed", 0, 0, 0, 1))

    def test_mixed_of_what_are_no_numbers(self):
        one, other = unit(1, 2, 3), unit(1, 2, 3, 4, 5)
        self.same("mixed", kinds.check_kind, one, other, MIXED, ("mixed", 1, 1, 0, 1))
        good = (1, 1, 0, 1)
        for thing in samples.NO_NUMBERS + [-1, 3, 7, -2]:
            for at in range(4):
                paper = ("mixed", *good[:at], thing, *good[at + 1:])
                self.refuses_part(BadPaper, "mixed", kinds.check_kind, one, other, MIXED, paper)

    def test_form(self):
        for paper in samples.STRANGE + [
            "", "down", "up", 0, (), ("",), ("Down",), ("down ",), ("none",), (None,), (True,), (b"down",), ["down"],
            ("down", 0), ("up", ()), ("straight", None), ("down", "up"), ("mixed",), ("mixed", 0, 0), (0, 0, 0, 1),
            ("mixed", 0, 0, 0), ("mixed", 0, 0, 0, 1, 0), ("mixed", (0, 0), (0, 1)), ["mixed", 0, 0, 0, 1],
            (("down",),), (["down"],), (samples.Word("down"),), samples.Row(("down",)), ("table", ()), ("total",),
            (samples.Agreeing(),), (samples.Agreeing(), 0, 0, 0, 1), (samples.namesake("str"),), ({},), (str,),
        ]:
            for one, other, costs in [(THREE, FIVE, DOWN), (unit(1, 2, 3), unit(1, 2, 3, 4, 5), MIXED), ((), (), ())]:
                self.refuses_part(BadPaper, "form", kinds.check_kind, one, other, costs, paper)


class Arguments(samples.Case):
    def test_shares_that_are_not_wider(self):
        for one, other in [(OTHER, ONE), (unit(0), unit(5)), ((), ONE), (ONE, ()), (unit(0, 1), unit(0, 1, 2))]:
            costs = samples.drawn_costs(random.Random(5), one, other)
            for call in CALLS:
                self.assertEqual(call(one, other, costs), call(one, other, costs))
            paper = kinds.kind_paper(one, other, costs)
            self.same(paper[0], kinds.check_kind, one, other, costs, paper)
        self.same(((0, 0),), kinds.bends_up, unit(0, 1), unit(0, 1, 2), ((0, 0, 0), (0, 0, 1)))

    def test_what_are_no_costs(self):
        for thing in samples.NO_COSTS:
            for call in CALLS:
                self.refuses(BadCosts, "given", thing, call, ONE, OTHER, thing)
            self.refuses(BadCosts, "given", thing, kinds.check_kind, ONE, OTHER, thing, ("straight",))
            self.refuses(BadCosts, "given", thing, kinds.check_kind, ONE, OTHER, thing, None)

    def test_what_are_no_shares(self):
        for thing in samples.NO_SHARES:
            for call in CALLS:
                self.refuses(BadShare, "given", thing, call, thing, OTHER, COSTS)
                self.refuses(BadShare, "given", thing, call, thing, [None], None)
                self.refuses(BadShare, "given", thing, call, ONE, thing, COSTS)
                self.refuses(BadShare, "given", thing, call, ONE, thing, None)
            self.refuses(BadShare, "given", thing, kinds.check_kind, thing, [None], None, None)
            self.refuses(BadShare, "given", thing, kinds.check_kind, ONE, thing, None, None)


if __name__ == "__main__":
    unittest.main()
