"""Points [4], [6] and [7], and the section on tables.py."""

import unittest
from fractions import Fraction
from itertools import permutations

import oracle
import samples
from curtainsteps import tables
from curtainsteps.errors import BadOrder, BadShare, BadTable, NotWider
from curtainsteps.shares import check_wider

ONE = ((0, (1, 2)), (1, (1, 2)))
OTHER = ((-1, (1, 4)), (0, (1, 4)), (1, (1, 4)), (2, (1, 4)))
LEFT = ((0, -1, (1, 8)), (0, 0, (1, 4)), (0, 1, (1, 8)), (1, -1, (1, 8)), (1, 1, (1, 8)), (1, 2, (1, 4)))
RIGHT = ((0, -1, (1, 4)), (0, 0, (1, 8)), (0, 2, (1, 8)), (1, 0, (1, 8)), (1, 1, (1, 4)), (1, 2, (1, 8)))
BIG = 10 ** 20 + 39
NOT_WIDER = [
    (OTHER, ONE), ((), ONE), (ONE, ()), (ONE, ((0, (1, 1)),)), (ONE, ((0, (1, 2)), (1, (1, 3)))),
    (((-1, (1, 1)), (1, (1, 1))), ((-2, (1, 3)), (0, (4, 3)), (2, (1, 3)))),
]


class NeedTable(samples.Case):
    def test_the_thing_itself(self):
        for table in [
            (), LEFT, RIGHT, samples.full_table(), ((-100, -100, (1, BIG)),), ((100, 100, (BIG, 1)),),
            ((0, -100, (1, 2)), (0, 100, (1, 2))), tuple((x, x, (1, 3)) for x in range(-100, -92)),
            ((99, 98, (1, 2)), (99, 100, (1, 2))), ((3, 2, (2, 3)), (3, 5, (1, 3)), (4, 2, (1, 1)), (4, 6, (1, 1))),
        ]:
            self.assertIs(tables.need_table(table), table)
        self.assertEqual(len(samples.full_table()), 64)

    def test_eight_unlike_numbers_and_nine(self):
        eight = tuple((0, y, (1, 8)) for y in range(-4, 5) if y != 0)
        self.assertIs(tables.need_table(eight), eight)
        nine = tuple((0, y, (1, 9)) for y in range(-4, 5))
        self.refuses(BadTable, "given", nine, tables.need_table, nine)
        weights = {}
        for x in range(-4, 5):
            weights[x, -10], weights[x, 10] = Fraction(10 - x), Fraction(10 + x)
        nine = oracle.table_of(weights)
        self.refuses(BadTable, "given", nine, tables.need_table, nine)
        self.assertEqual(tables.need_table(nine[2:]), nine[2:])
        self.assertEqual(tables.need_table(nine[:-2]), nine[:-2])

    def test_one_more_step(self):
        full = samples.full_table()
        for table in [full + ((4, 4, (1, 1)),), full * 2, ((-5, -5, (1, 1)),) + full]:
            self.refuses(BadTable, "given", table, tables.need_table, table)

    def test_a_weight_otherwise(self):
        for table in [LEFT, RIGHT, samples.full_table()]:
            for at, (x, y, weight) in enumerate(table):
                if x != y:
                    other = table[:at] + ((x, y, (weight[0] + weight[1], weight[1])),) + table[at + 1:]
                    self.refuses(BadTable, "given", other, tables.need_table, other)
                    other = table[:at] + table[at + 1:]
                    self.refuses(BadTable, "given", other, tables.need_table, other)

    def test_steps_that_do_not_ascend(self):
        for at in range(5):
            swapped = LEFT[:at] + (LEFT[at + 1], LEFT[at]) + LEFT[at + 2:]
            self.refuses(BadTable, "given", swapped, tables.need_table, swapped)
        twice = ((0, -1, (1, 2)), (0, 0, (1, 4)), (0, 0, (1, 4)), (0, 1, (1, 2)))
        self.refuses(BadTable, "given", twice, tables.need_table, twice)

    def test_start_and_end(self):
        self.same(ONE, tables.start_of, LEFT)
        self.same(OTHER, tables.end_of, LEFT)
        self.same((), tables.start_of, ())
        self.same((), tables.end_of, ())
        self.same(((3, (1, BIG)),), tables.start_of, ((3, 2, (1, 2 * BIG)), (3, 4, (1, 2 * BIG))))
        self.same(oracle.start(samples.full_table()), tables.start_of, samples.full_table())
        self.same(oracle.end(samples.full_table()), tables.end_of, samples.full_table())

    def test_what_is_no_table(self):
        for thing in samples.NO_TABLES:
            for call in [tables.need_table, tables.start_of, tables.end_of]:
                self.refuses(BadTable, "given", thing, call, thing)


class TableBy(samples.Case):
    def goes_by_windows(self, one, other, order, table):
        left = other
        for place in order:
            number, weight = one[place]
            target = tuple((y, part) for x, y, part in table if x == number)
            self.assertTrue(oracle.window(left, target))
            self.assertEqual(oracle.total(target), oracle.worth(weight))
            weights = {number: oracle.worth(part) for number, part in left}
            for y, part in target:
                weights[y] -= oracle.worth(part)
            left = oracle.share_of(weights)
        self.assertEqual(left, ())

    def test_plain_values(self):
        self.same(LEFT, tables.table_by, ONE, OTHER, (0, 1))
        self.same(RIGHT, tables.table_by, ONE, OTHER, (1, 0))
        self.same(LEFT, tables.left_table, ONE, OTHER)
        self.same(RIGHT, tables.right_table, ONE, OTHER)
        middle = ((0, (1, 1)), (1, (1, 1)), (2, (1, 1)))
        wide = ((-1, (1, 1)), (1, (1, 1)), (3, (1, 1)))
        self.same(
            ((0, -1, (1, 2)), (0, 1, (1, 2)), (1, -1, (1, 4)), (1, 1, (1, 2)), (1, 3, (1, 4)),
             (2, -1, (1, 4)), (2, 3, (3, 4))),
            tables.table_by, middle, wide, (0, 1, 2))
        self.same(
            ((0, -1, (1, 2)), (0, 1, (1, 2)), (1, 1, (1, 1)), (2, 1, (1, 2)), (2, 3, (1, 2))),
            tables.table_by, middle, ((-1, (1, 2)), (1, (2, 1)), (3, (1, 2))), (1, 2, 0))

    def test_all_orders(self):
        unlike = 0
        for one, other in samples.drawn_pairs(40, 20, 4):
            answers = []
            for order in permutations(range(len(one))):
                table = tables.table_by(one, other, order)
                self.assertTrue(oracle.is_table(table))
                self.assertIs(tables.need_table(table), table)
                self.assertEqual(oracle.start(table), one)
                self.assertEqual(oracle.end(table), other)
                self.goes_by_windows(one, other, order, table)
                answers.append(table)
            self.same(answers[0], tables.left_table, one, other)
            self.same(answers[-1], tables.right_table, one, other)
            unlike += len(set(answers)) > 2
        self.assertGreater(unlike, 5)

    def test_left_and_right_of_many_numbers(self):
        for one, other in samples.drawn_pairs(40, 21, 8):
            for call, step in [(tables.left_table, 1), (tables.right_table, -1)]:
                table = call(one, other)
                self.assertTrue(oracle.is_table(table))
                self.assertEqual((oracle.start(table), oracle.end(table)), (one, other))
                self.goes_by_windows(one, other, list(range(len(one)))[::step], table)

    def test_left_and_right_mirrored(self):
        for one, other in samples.drawn_pairs(30, 22):
            flipped = [tuple((-number, weight) for number, weight in share[::-1]) for share in (one, other)]
            mirrored = tuple((-x, -y, weight) for x, y, weight in tables.right_table(*flipped)[::-1])
            self.same(mirrored, tables.left_table, one, other)

    def test_nothing_and_one(self):
        for call in [tables.left_table, tables.right_table]:
            self.same((), call, (), ())
            self.same(((0, -100, (1, BIG)), (0, 100, (1, BIG))),
                      call, ((0, (2, BIG)),), ((-100, (1, BIG)), (100, (1, BIG))))
            self.same(tuple((x, x, weight) for x, weight in OTHER), call, OTHER, OTHER)
        self.same((), tables.table_by, (), (), ())

    def test_what_is_no_order(self):
        for order in samples.STRANGE + [
            (), (0,), (1,), (0, 0), (1, 1), (1, 2), (0, 2), (-1, 0), (0, -1), (0, 1, 2), (0, 1, 1), [0, 1], (0, True),
            (False, 1), (True, False), "01", ("0", "1"), (0, None), (None, 1), ((0, 1),), 0, 1, (0, (1,)), range(2),
            (samples.Whole(0), 1), samples.Row((0, 1)), (0, samples.Agreeing()), (0, 10 ** 30), ([], 1), (0, {}),
        ]:
            self.refuses(BadOrder, "given", order, tables.table_by, ONE, OTHER, order)
            # Ahead of a share that is not wider.
            self.refuses(BadOrder, "given", order, tables.table_by, ONE, (), order)
        for order in [(0,), None, [], ((),)]:
            self.refuses(BadOrder, "given", order, tables.table_by, (), (), order)

    def test_what_are_no_shares(self):
        for thing in samples.NO_SHARES:
            self.refuses(BadShare, "given", thing, tables.table_by, thing, OTHER, (0, 1))
            self.refuses(BadShare, "given", thing, tables.table_by, thing, [None], None)
            self.refuses(BadShare, "given", thing, tables.table_by, ONE, thing, (0, 1))
            self.refuses(BadShare, "given", thing, tables.table_by, ONE, thing, None)
            for call in [tables.left_table, tables.right_table, tables.wider_paper]:
                self.refuses(BadShare, "given", thing, call, thing, OTHER)
                self.refuses(BadShare, "given", thing, call, thing, [None])
                self.refuses(BadShare, "given", thing, call, ONE, thing)


class Papers(samples.Case):
    def holds(self, one, other, paper):
        self.assertEqual(check_wider(one, other, paper), paper[0])
        self.assertEqual(paper[0] == "table", oracle.wider(one, other))
        if paper[0] == "mark":
            self.assertIn(paper[1], oracle.lesser_marks(one, other))

    def test_not_wider(self):
        for one, other in NOT_WIDER + [(other, one) for one, other in samples.drawn_pairs(30, 23) if one != other]:
            order = tuple(range(len(one)))
            for call, passed in [(tables.table_by, (order,)), (tables.left_table, ()), (tables.right_table, ())]:
                ahead = repr((one, other))
                with self.assertRaises(NotWider) as caught:
                    call(one, other, *passed)
                self.assertIs(caught.exception.__class__, NotWider)
                self.assertNotEqual(caught.exception.paper[0], "table")
                self.holds(one, other, caught.exception.paper)
                self.assertEqual(repr((one, other)), ahead)

    def test_each_sort(self):
        self.same(("total",), tables.wider_paper, ONE, ((0, (1, 2)), (1, (1, 3)), (2, (1, 12))))
        self.same(("moment",), tables.wider_paper, ONE, ((0, (1, 1)),))
        self.same(("mark", 0), tables.wider_paper, ((-1, (1, 1)), (1, (1, 1))), ((0, (2, 1)),))
        self.same(("table", LEFT), tables.wider_paper, ONE, OTHER)
        self.same(("table", ()), tables.wider_paper, (), ())

    def test_papers_hold(self):
        sorts = set()
        pairs = NOT_WIDER + samples.drawn_pairs(40, 24)
        pairs += [(other, one) for one, other in pairs]
        drawn = [one for one, _ in samples.drawn_pairs(15, 25, 3)]
        pairs += [(one, other) for one in drawn for other in drawn]
        for one, other in pairs:
            paper = tables.wider_paper(one, other)
            self.assertEqual(paper, tables.wider_paper(one, other))
            self.holds(one, other, paper)
            sorts.add(paper[0])
        self.assertEqual(sorts, {"table", "total", "moment", "mark"})


if __name__ == "__main__":
    unittest.main()
