"""Point [10] as far as costs.py speaks of it, and the section on costs.py."""

import random
import unittest
from fractions import Fraction

import oracle
import samples
from curtainsteps import costs
from curtainsteps.errors import BadCosts, BadShare, BadTable
from curtainsteps.tables import left_table, right_table, table_by

ONE, OTHER, COSTS = samples.ONE, samples.OTHER, samples.COSTS
BIG = 10 ** 20 + 39


class NeedCosts(samples.Case):
    def test_the_thing_itself(self):
        eight = samples.NINE[:8]
        for one, other, thing in [
            ((), (), ()), ((), OTHER, ()), (ONE, (), ((), ())), (ONE, OTHER, COSTS), (OTHER, ONE, ((0, 0),) * 4),
            (ONE, ((0, (1, 1)),), ((1000,), (-1000,))), (eight, eight, (tuple(range(-4, 4)),) * 8),
        ]:
            self.assertIs(costs.need_costs(one, other, thing), thing)

    def test_what_are_none(self):
        for thing in samples.NO_COSTS:
            self.refuses(BadCosts, "given", thing, costs.need_costs, ONE, OTHER, thing)
            self.refuses(BadCosts, "given", thing, costs.cost_of, ONE, OTHER, thing, ())
            self.refuses(BadCosts, "given", thing, costs.cost_of, ONE, OTHER, thing, None)

    def test_what_are_none_of_nothing(self):
        for thing in [((),), ((), ()), None, [], "", (0,), ((0,),)]:
            self.refuses(BadCosts, "given", thing, costs.need_costs, (), (), thing)
            self.refuses(BadCosts, "given", thing, costs.need_costs, (), OTHER, thing)
        for thing in [(), ((),), ((), (), ()), ((), (0,)), ((), None), ([], [])]:
            self.refuses(BadCosts, "given", thing, costs.need_costs, ONE, (), thing)


class CostOf(samples.Case):
    def test_plain_values(self):
        self.same((0, 1), costs.cost_of, (), (), (), ())
        self.same((-3, 1), costs.cost_of, ((5, (3, 1)),), ((5, (3, 1)),), ((-1,),), ((5, 5, (3, 1)),))
        left = ((0, -1, (1, 8)), (0, 0, (1, 4)), (0, 1, (1, 8)), (1, -1, (1, 8)), (1, 1, (1, 8)), (1, 2, (1, 4)))
        self.same((-997, 8), costs.cost_of, ONE, OTHER, COSTS, left)

    def test_several_tables_between_the_same_shares(self):
        chance = random.Random(40)
        unlike = 0
        for one, other in samples.drawn_pairs(60, 41):
            rows = tuple(tuple(chance.randint(-1000, 1000) for _ in other) for _ in one)
            order = list(range(len(one)))
            chance.shuffle(order)
            answers = set()
            for table in [left_table(one, other), right_table(one, other), table_by(one, other, tuple(order))]:
                self.same(oracle.told(oracle.cost(one, other, rows, table)), costs.cost_of, one, other, rows, table)
                answers.add(costs.cost_of(one, other, rows, table))
            unlike += len(answers) > 1
        self.assertGreater(unlike, 15)

    def test_large_integers(self):
        one, other = ((0, (2, BIG)),), ((-100, (1, BIG)), (100, (1, BIG)))
        table = ((0, -100, (1, BIG)), (0, 100, (1, BIG)))
        self.same((1999, BIG), costs.cost_of, one, other, ((999, 1000),), table)

    def test_a_table_between_others(self):
        left = left_table(ONE, OTHER)
        stays = ((0, 0, (1, 2)), (1, 1, (1, 2)))
        halved = tuple((x, y, (top, 2 * bottom)) for x, y, (top, bottom) in left)
        for table in [(), stays, halved, left[:3], left[3:]]:
            self.refuses(BadTable, "given", table, costs.cost_of, ONE, OTHER, COSTS, table)
        # The start is right, the end is not; and the other way round.
        self.refuses(BadTable, "given", left, costs.cost_of, ONE, ONE, ((1, 2), (3, 4)), left)
        self.refuses(BadTable, "given", left, costs.cost_of, OTHER, OTHER, (COSTS[0],) * 4, left)
        self.refuses(BadTable, "given", left, costs.cost_of, (), (), (), left)
        # Not wider: there is no table at all.
        self.refuses(BadTable, "given", left, costs.cost_of, OTHER, ONE, ((1, 2),) * 4, left)

    def test_what_is_no_table(self):
        for thing in samples.NO_TABLES:
            self.refuses(BadTable, "given", thing, costs.cost_of, ONE, OTHER, COSTS, thing)
            self.refuses(BadTable, "given", thing, costs.cost_of, (), (), (), thing)

    def test_what_are_no_shares(self):
        for thing in samples.NO_SHARES:
            self.refuses(BadShare, "given", thing, costs.need_costs, thing, OTHER, COSTS)
            self.refuses(BadShare, "given", thing, costs.need_costs, thing, [None], None)
            self.refuses(BadShare, "given", thing, costs.need_costs, ONE, thing, COSTS)
            self.refuses(BadShare, "given", thing, costs.need_costs, ONE, thing, None)
            self.refuses(BadShare, "given", thing, costs.cost_of, thing, [None], None, None)
            self.refuses(BadShare, "given", thing, costs.cost_of, ONE, thing, None, None)


if __name__ == "__main__":
    unittest.main()
