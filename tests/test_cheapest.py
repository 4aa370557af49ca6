"""Points [10], [12] and [13], the facts of [11], and the section on cheapest.py."""

import random
import unittest
from fractions import Fraction
from itertools import permutations

import oracle
import samples
from curtainsteps import cheapest
from curtainsteps.costs import cost_of
from curtainsteps.errors import BadCosts, BadPaper, BadShare, NotWider
from curtainsteps.shares import check_wider
from curtainsteps.tables import left_table, right_table, table_by

ONE, OTHER, COSTS = samples.ONE, samples.OTHER, samples.COSTS
BIG = 10 ** 40 + 139
ANSWERS = [
    cheapest.cheapest_cost, cheapest.dearest_cost, cheapest.cheapest_paper, cheapest.dearest_paper, cheapest.gap,
]
CHECKS = [cheapest.check_cheapest, cheapest.check_dearest]
# What the COSTS are here: the CHEAPEST and the DEAREST table, and what either bound may be raised to.
NARROW = ((0, (1, 1)),)
WIDE = ((-1, (1, 2)), (1, (1, 2)))
STEPS = ((0, -1, (1, 2)), (0, 1, (1, 2)))


def holds(one, other, costs, paper, way):
    """Point [12] in its own words: 1 for CHEAPEST, -1 for DEAREST."""
    table, starts, ends, gains = paper
    if not oracle.is_table(table) or oracle.start(table) != one or oracle.end(table) != other:
        return False
    if len(starts) != len(one) or len(ends) != len(other) or len(gains) != len(one):
        return False
    for i, (x, _) in enumerate(one):
        for j, (y, _) in enumerate(other):
            together = oracle.worth(starts[i]) + oracle.worth(ends[j]) + oracle.worth(gains[i]) * (y - x)
            if together * way > costs[i][j] * way:
                return False
    whole = sum(oracle.worth(price) * oracle.worth(weight) for price, (_, weight) in zip(starts, one))
    whole += sum(oracle.worth(price) * oracle.worth(weight) for price, (_, weight) in zip(ends, other))
    return whole == oracle.cost(one, other, costs, table)


class Whole(samples.Case):
    def proves(self, one, other, costs):
        """Both papers hold, by the words and by the checks; the costs are theirs. Both of them."""
        found = []
        for paper_of, cost, check, way in [
            (cheapest.cheapest_paper, cheapest.cheapest_cost, cheapest.check_cheapest, 1),
            (cheapest.dearest_paper, cheapest.dearest_cost, cheapest.check_dearest, -1),
        ]:
            paper = paper_of(one, other, costs)
            self.assertTrue(holds(one, other, costs, paper, way), (one, other, costs))
            told = oracle.told(oracle.cost(one, other, costs, paper[0]))
            self.same(paper, paper_of, one, other, costs)
            self.same(told, cost, one, other, costs)
            self.same(told, check, one, other, costs, paper)
            found.append(told)
        left = oracle.cost(one, other, costs, left_table(one, other))
        self.same(oracle.told(left - oracle.worth(found[0])), cheapest.gap, one, other, costs)
        return found

    def test_nothing_and_one_pair(self):
        self.assertEqual(self.proves((), (), ()), [(0, 1), (0, 1)])
        self.same(((), (), (), ()), cheapest.cheapest_paper, (), (), ())
        self.same(((), (), (), ()), cheapest.dearest_paper, (), (), ())
        self.same((0, 1), cheapest.gap, (), (), ())
        self.assertEqual(self.proves(((5, (3, 1)),), ((5, (3, 1)),), ((-7,),)), [(-21, 1)] * 2)
        self.assertEqual(self.proves(NARROW, WIDE, ((3, 4),)), [(7, 2)] * 2)
        eight = tuple((number, (1, 2)) for number in (-100, -9, -3, -1, 1, 3, 9, 100))
        self.proves(((0, (4, 1)),), eight, ((1000, -1000, 0, 3, 5, -7, 999, -999),))

    def test_by_hand(self):
        # From 0 and 1, half each, to -1, 0, 1 and 2, a quarter each. All of 1 may stay that is there, or none of it:
        # then 0 goes to -1 and 1, and 1 to 0 and 2.
        self.assertEqual(self.proves(ONE, OTHER, ((0, 0, 0, 0), (0, 0, 1000, 0))), [(0, 1), (250, 1)])
        # Likewise of 0; the LEFT TABLE has all of it stay.
        self.assertEqual(self.proves(ONE, OTHER, ((0, -1000, 0, 0), (0, 0, 0, 0))), [(-250, 1), (0, 1)])
        self.same((0, 1), cheapest.gap, ONE, OTHER, ((0, -1000, 0, 0), (0, 0, 0, 0)))
        self.same((250, 1), cheapest.gap, ONE, OTHER, ((0, 1000, 0, 0), (0, 0, 0, 0)))
        # 1 goes to -1 with an eighth at the most: then 0 lacks it, and has all of itself and of 1 instead.
        self.assertEqual(self.proves(ONE, OTHER, ((0, 0, 0, 0), (8, 0, 0, 0))), [(0, 1), (1, 1)])

    def test_against_all_corners(self):
        chance = random.Random(1)
        unlike = 0
        for one, other in samples.small_pairs(30, 2) + samples.drawn_pairs(15, 2, 1):
            costs = samples.drawn_costs(chance, one, other, chance.choice([1, 3, 1000]))
            tables = [oracle.table_of(corner) for corner in oracle.corner_tables(one, other)]
            answers = [oracle.cost(one, other, costs, table) for table in tables]
            self.assertEqual(self.proves(one, other, costs), [oracle.told(min(answers)), oracle.told(max(answers))])
            unlike += len(tables) > 3
        self.assertGreater(unlike, 15)

    def test_many_pairs(self):
        chance = random.Random(3)
        fewer = 0
        for one, other in samples.drawn_pairs(40, 4, 8):
            costs = samples.drawn_costs(chance, one, other, chance.choice([1, 5, 1000]))
            least, most = map(oracle.worth, self.proves(one, other, costs))
            orders = [tuple(range(len(one))), tuple(range(len(one)))[::-1]]
            orders.append(tuple(chance.sample(range(len(one)), len(one))))
            for order in orders:
                cost = oracle.cost(one, other, costs, table_by(one, other, order))
                self.assertTrue(least <= cost <= most)
            fewer += len(cheapest.cheapest_paper(one, other, costs)[0]) < len(one) + len(other)
        self.assertGreater(fewer, 5)

    def test_steps_that_close_among_themselves(self):
        # Each X goes to its own two numbers: two parts that have nothing to do with one another, and one that stays.
        one = ((-50, (1, 1)), (0, (1, 3)), (50, (2, 1)))
        other = ((-51, (1, 2)), (-49, (1, 2)), (0, (1, 3)), (49, (1, 1)), (51, (1, 1)))
        chance = random.Random(5)
        for _ in range(10):
            costs = samples.drawn_costs(chance, one, other)
            least, most = self.proves(one, other, costs)
            self.assertEqual(least, most)
        two = ((-50, (1, 1)), (-48, (1, 1)), (50, (1, 1)), (52, (1, 1)))
        wide = tuple((number, (1, 2)) for number in (-52, -50, -48, -46, 48, 50, 52, 54))
        for _ in range(10):
            self.proves(two, wide, samples.drawn_costs(chance, two, wide))
        stays = tuple((number, (1, number + 9)) for number in range(8))
        for _ in range(5):
            costs = samples.drawn_costs(chance, stays, stays)
            self.assertEqual(len(set(self.proves(stays, stays, costs))), 1)

    def test_weights_of_many_figures(self):
        chance = random.Random(6)
        for one, other in samples.drawn_pairs(8, 7, 4):
            shares = [
                tuple((number, oracle.told(oracle.worth(weight) * Fraction(BIG, BIG - 2))) for number, weight in share)
                for share in (one, other)
            ]
            costs = samples.drawn_costs(chance, one, other)
            answers = [oracle.worth(cost) for cost in self.proves(one, other, costs)]
            large = [oracle.worth(cost) for cost in self.proves(*shares, costs)]
            self.assertEqual(large, [cost * Fraction(BIG, BIG - 2) for cost in answers])

    def test_contrary_costs(self):
        chance = random.Random(8)
        for one, other in samples.drawn_pairs(15, 9):
            costs = samples.drawn_costs(chance, one, other)
            contrary = tuple(tuple(-item for item in row) for row in costs)
            top, bottom = cheapest.cheapest_cost(one, other, contrary)
            self.same((-top, bottom), cheapest.dearest_cost, one, other, costs)


class Kinds(samples.Case):
    def test_left_and_right(self):
        gaps = 0
        for one, other in samples.drawn_pairs(40, 10):
            down = tuple(tuple(-x * y * y for y, _ in other) for x, _ in one)
            up = tuple(tuple(x * y * y + 7 * x - y for y, _ in other) for x, _ in one)
            left, right = left_table(one, other), right_table(one, other)
            if max(abs(item) for row in down + up for item in row) > 1000:
                continue
            self.same(cost_of(one, other, down, left), cheapest.cheapest_cost, one, other, down)
            self.same(cost_of(one, other, down, right), cheapest.dearest_cost, one, other, down)
            self.same(cost_of(one, other, up, left), cheapest.dearest_cost, one, other, up)
            self.same(cost_of(one, other, up, right), cheapest.cheapest_cost, one, other, up)
            self.same((0, 1), cheapest.gap, one, other, down)
            gaps += cheapest.gap(one, other, up) != (0, 1)
            for order in permutations(range(len(one)), min(2, len(one))):
                rest = tuple(place for place in range(len(one)) if place not in order)
                table = table_by(one, other, order + rest)
                self.assertLessEqual(oracle.cost(one, other, down, left), oracle.cost(one, other, down, table))
        self.assertGreater(gaps, 5)

    def test_gap_by_hand(self):
        up = tuple(tuple(x * y * y for y, _ in OTHER) for x, _ in ONE)
        left, right = left_table(ONE, OTHER), right_table(ONE, OTHER)
        difference = oracle.cost(ONE, OTHER, up, left) - oracle.cost(ONE, OTHER, up, right)
        self.assertEqual(difference, Fraction(1, 2))
        self.same((1, 2), cheapest.gap, ONE, OTHER, up)


class Checks(samples.Case):
    def both(self, part, one, other, costs, change):
        """Both checks refuse their papers with one thing otherwise."""
        for paper_of, check in [
            (cheapest.cheapest_paper, cheapest.check_cheapest), (cheapest.dearest_paper, cheapest.check_dearest),
        ]:
            self.refuses_part(BadPaper, part, check, one, other, costs, change(*paper_of(one, other, costs)))

    def test_form(self):
        for make in [
            lambda t, u, v, h: (t, u, v), lambda t, u, v, h: (t, u, v, h, h), lambda t, u, v, h: [t, u, v, h],
            lambda t, u, v, h: samples.Row((t, u, v, h)), lambda t, u, v, h: ((t, u, v, h),), lambda t, u, v, h: u,
            lambda t, u, v, h: {0: t, 1: u, 2: v, 3: h}, lambda t, u, v, h: (), lambda t, u, v, h: "abcd",
        ]:
            self.both("form", ONE, OTHER, COSTS, make)
        for thing in samples.STRANGE + [0, 1, "", "form", (1,), ("table", ())]:
            for check in CHECKS:
                self.refuses_part(BadPaper, "form", check, ONE, OTHER, COSTS, thing)
                self.refuses_part(BadPaper, "form", check, (), (), (), thing)

    def test_table(self):
        stays = ((0, 0, (1, 2)), (1, 1, (1, 2)))
        twice = tuple((x, y, (top * 2, bottom)) for x, y, (top, bottom) in STEPS)
        for table in samples.NO_TABLES + [(), stays, STEPS, twice, left_table(ONE, OTHER)[1:]]:
            self.both("table", ONE, OTHER, COSTS, lambda t, u, v, h, table=table: (table, u, v, h))
            # Ahead of all that is wrong behind it.
            self.both("table", ONE, OTHER, COSTS, lambda t, u, v, h, table=table: (table, None, v, [1]))
        self.both("table", (), (), (), lambda t, u, v, h: (stays, u, v, h))

    def test_prices(self):
        wrong = [None, [], [(0, 1)] * 2, (), "", 0, ((0, 1),), ((0, 1),) * 3, ((0, 1),) * 5, samples.Row(((0, 1),) * 2)]
        for thing in wrong:
            self.both("prices", ONE, OTHER, COSTS, lambda t, u, v, h, thing=thing: (t, thing, v, h))
            self.both("prices", ONE, OTHER, COSTS, lambda t, u, v, h, thing=thing: (t, u, thing, h))
            self.both("prices", ONE, OTHER, COSTS, lambda t, u, v, h, thing=thing: (t, u, v, thing))
        for thing in samples.NO_FRACTIONS:
            self.both("prices", ONE, OTHER, COSTS, lambda t, u, v, h, thing=thing: (t, (thing, u[1]), v, h))
            self.both("prices", ONE, OTHER, COSTS, lambda t, u, v, h, thing=thing: (t, u, v[:3] + (thing,), h))
            self.both("prices", ONE, OTHER, COSTS, lambda t, u, v, h, thing=thing: (t, u, v, (h[0], thing)))
        for change in [
            lambda t, u, v, h: (t, u, v, ((0, 1),)), lambda t, u, v, h: (t, ((0, 1),), v, h),
            lambda t, u, v, h: (t, u, ((0, 1),), h), lambda t, u, v, h: (t, None, v, h),
        ]:
            self.both("prices", (), (), (), change)

    def test_plain_papers(self):
        paper = (STEPS, ((0, 1),), ((3, 1), (4, 1)), ((0, 1),))
        for check in CHECKS:
            self.same((7, 2), check, NARROW, WIDE, ((3, 4),), paper)
            # Prices of another kind, to the same effect.
            self.same((7, 2), check, NARROW, WIDE, ((3, 4),), (STEPS, ((7, 2),), ((0, 1), (0, 1)), ((1, 2),)))
            self.same((7, 2), check, NARROW, WIDE, ((3, 4),), (STEPS, ((9, 2),), ((0, 1), (-2, 1)), ((3, 2),)))
            self.same((0, 1), check, (), (), (), ((), (), (), ()))

    def test_a_bound_passed_at_one_place(self):
        # Above COSTS at -1 alone, then at 1 alone; below them likewise, in the check on DEAREST.
        for ends in [((7, 2), (4, 1)), ((3, 1), (10 ** 30 * 4 + 1, 10 ** 30)), ((9, 1), (-2, 1))]:
            paper = (STEPS, ((0, 1),), ends, ((0, 1),))
            self.refuses_part(BadPaper, "bound", cheapest.check_cheapest, NARROW, WIDE, ((3, 4),), paper)
        for ends in [((5, 2), (4, 1)), ((3, 1), (10 ** 30 * 4 - 1, 10 ** 30)), ((9, 1), (-2, 1))]:
            paper = (STEPS, ((0, 1),), ends, ((0, 1),))
            self.refuses_part(BadPaper, "bound", cheapest.check_dearest, NARROW, WIDE, ((3, 4),), paper)
        # By H alone.
        for gain in [(1, 10 ** 20), (-1, 10 ** 20)]:
            paper = (STEPS, ((0, 1),), ((3, 1), (4, 1)), (gain,))
            for check in CHECKS:
                self.refuses_part(BadPaper, "bound", check, NARROW, WIDE, ((3, 4),), paper)

    def test_each_place_counts(self):
        chance = random.Random(11)
        for one, other in [(ONE, OTHER)] + samples.drawn_pairs(6, 12, 4):
            costs = samples.drawn_costs(chance, one, other, 900)
            for paper_of, check, way in [
                (cheapest.cheapest_paper, cheapest.check_cheapest, 1),
                (cheapest.dearest_paper, cheapest.check_dearest, -1),
            ]:
                paper = paper_of(one, other, costs)
                used = {(x, y) for x, y, _ in paper[0]}
                for i, (x, _) in enumerate(one):
                    for j, (y, _) in enumerate(other):
                        if (x, y) not in used:
                            # Where no step is, another cost there moves no sum: only the bound can be passed.
                            row = costs[i][:j] + (-1000 * way,) + costs[i][j + 1:]
                            changed = costs[:i] + (row,) + costs[i + 1:]
                            if holds(one, other, changed, paper, way):
                                self.same(oracle.told(oracle.cost(one, other, costs, paper[0])),
                                          check, one, other, changed, paper)
                            else:
                                self.refuses_part(BadPaper, "bound", check, one, other, changed, paper)

    def test_sum(self):
        for ends in [((5, 2), (4, 1)), ((3, 1), (10 ** 30 * 4 - 1, 10 ** 30)), ((0, 1), (0, 1))]:
            paper = (STEPS, ((0, 1),), ends, ((0, 1),))
            self.refuses_part(BadPaper, "sum", cheapest.check_cheapest, NARROW, WIDE, ((3, 4),), paper)
        paper = (STEPS, ((1, 10 ** 30),), ((3, 1), (4, 1)), ((0, 1),))
        self.refuses_part(BadPaper, "sum", cheapest.check_dearest, NARROW, WIDE, ((3, 4),), paper)

        def lowered(way):
            return lambda t, u, v, h: (t, (oracle.told(oracle.worth(u[0]) - Fraction(way, 10 ** 9)), *u[1:]), v, h)

        paper = lowered(1)(*cheapest.cheapest_paper(ONE, OTHER, COSTS))
        self.refuses_part(BadPaper, "sum", cheapest.check_cheapest, ONE, OTHER, COSTS, paper)
        paper = lowered(-1)(*cheapest.dearest_paper(ONE, OTHER, COSTS))
        self.refuses_part(BadPaper, "sum", cheapest.check_dearest, ONE, OTHER, COSTS, paper)

    def test_a_table_that_is_not_the_cheapest(self):
        down = tuple(tuple(-x * y * y for y, _ in OTHER) for x, _ in ONE)
        left, right = left_table(ONE, OTHER), right_table(ONE, OTHER)
        least, most = cheapest.cheapest_paper(ONE, OTHER, down), cheapest.dearest_paper(ONE, OTHER, down)
        for check, paper, good, bad in [
            (cheapest.check_cheapest, least, left, right), (cheapest.check_dearest, most, right, left),
        ]:
            self.same(cost_of(ONE, OTHER, down, good), check, ONE, OTHER, down, (good, *paper[1:]))
            self.refuses_part(BadPaper, "sum", check, ONE, OTHER, down, (bad, *paper[1:]))
        # The paper of the one is none of the other.
        self.refuses_part(BadPaper, "bound", cheapest.check_cheapest, ONE, OTHER, down, most)
        self.refuses_part(BadPaper, "bound", cheapest.check_dearest, ONE, OTHER, down, least)


class Arguments(samples.Case):
    def test_not_wider(self):
        pairs = [(OTHER, ONE), (NARROW, ()), ((), NARROW), (NARROW, ((1, (1, 1)),)), (WIDE, NARROW)]
        pairs += [(other, one) for one, other in samples.drawn_pairs(10, 13) if one != other]
        for one, other in pairs:
            costs = tuple((0,) * len(other) for _ in one)

            def check(paper, one=one, other=other):
                self.assertNotEqual(paper[0], "table")
                self.assertEqual(check_wider(one, other, paper), paper[0])

            for call in ANSWERS:
                self.refuses_paper(NotWider, check, call, one, other, costs)
            for call in CHECKS:
                # Ahead of anything that is wrong with the paper.
                for paper in [None, (), ((), (), (), ()), 5]:
                    self.refuses_paper(NotWider, check, call, one, other, costs, paper)

    def test_what_are_no_costs(self):
        for thing in samples.NO_COSTS:
            for call in ANSWERS:
                self.refuses(BadCosts, "given", thing, call, ONE, OTHER, thing)
            for call in CHECKS:
                self.refuses(BadCosts, "given", thing, call, ONE, OTHER, thing, None)
        for thing in [((1, 2, 3),), None, ((1, 2),) * 3]:
            for call in ANSWERS:
                # Ahead of a share that is not wider.
                self.refuses(BadCosts, "given", thing, call, OTHER, ONE, thing)

    def test_what_are_no_shares(self):
        for thing in samples.NO_SHARES:
            for call in ANSWERS:
                self.refuses(BadShare, "given", thing, call, thing, OTHER, COSTS)
                self.refuses(BadShare, "given", thing, call, thing, [None], None)
                self.refuses(BadShare, "given", thing, call, ONE, thing, None)
            for call in CHECKS:
                self.refuses(BadShare, "given", thing, call, thing, [None], None, None)
                self.refuses(BadShare, "given", thing, call, ONE, thing, None, None)


if __name__ == "__main__":
    unittest.main()
