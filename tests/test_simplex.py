"""The linear programs behind the papers: least prices and what proves them, for rows of all kinds."""

import random
import unittest
from fractions import Fraction

import oracle
from curtainsteps.simplex import solved


def times(row, values):
    return sum((item * value for item, value in zip(row, values)), Fraction(0))


class Solved(unittest.TestCase):
    def proves(self, rows, sums, prices):
        """What is told proves itself; the least price, or None."""
        ahead = repr((rows, sums, prices))
        found, worths = solved(rows, sums, prices)
        self.assertEqual(repr((rows, sums, prices)), ahead)
        self.assertEqual(solved(rows, sums, prices), (found, worths))
        whole = [oracle.worth(item) for item in sums]
        worth = [oracle.worth(item) for item in worths]
        self.assertEqual(len(worth), len(rows))
        columns = [[row[column] for row in rows] for column in range(len(prices))]
        if found is None:
            self.assertEqual(times(whole, worth), 1)
            self.assertTrue(all(times(column, worth) <= 0 for column in columns))
            return None
        values = [oracle.worth(item) for item in found]
        self.assertTrue(all(value >= 0 for value in values))
        self.assertEqual([times(row, values) for row in rows], whole)
        self.assertTrue(all(times(column, worth) <= price for column, price in zip(columns, prices)))
        self.assertEqual(times(whole, worth), times(prices, values))
        return times(prices, values)

    def test_plain_values(self):
        self.assertEqual(self.proves([[1, 1]], [(1, 1)], [3, 2]), 2)
        self.assertEqual(self.proves([[-1, -1]], [(-1, 2)], [3, 2]), 1)
        self.assertEqual(self.proves([[2, 0], [0, 3]], [(1, 1), (1, 1)], [6, -6]), 1)
        self.assertIsNone(self.proves([[1, 1]], [(-1, 1)], [0, 0]))
        self.assertIsNone(self.proves([[1, 1], [2, 2]], [(1, 1), (3, 1)], [0, 0]))
        self.assertIsNone(self.proves([[1, -1], [1, -1]], [(1, 1), (0, 1)], [0, 0]))

    def test_nothing(self):
        self.assertEqual(solved([], [], []), ([], []))
        self.assertEqual(self.proves([[], []], [(0, 1), (0, 1)], []), 0)
        self.assertIsNone(self.proves([[], []], [(0, 1), (1, 3)], []))
        self.assertIsNone(self.proves([[]], [(-1, 3)], []))

    def test_rows_that_say_nothing_new(self):
        for many in range(1, 5):
            rows, sums = [[1, 2, 3], [0, 1, -1]] * many, [(4, 1), (1, 2)] * many
            self.assertEqual(self.proves(rows, sums, [1, 1, 1]), Fraction(17, 10))
            self.assertEqual(self.proves(rows + [[1, 3, 2]], sums + [(9, 2)], [1, 1, 1]), Fraction(17, 10))
            self.assertIsNone(self.proves(rows + [[1, 3, 2]], sums + [(5, 1)], [1, 1, 1]))
            self.assertEqual(self.proves(rows + [[0, 0, 0]], sums + [(0, 1)], [1, 1, 1]), Fraction(17, 10))

    def test_turns_that_gain_nothing(self):
        # By the steepest column alone this goes round for ever (Beale 1955).
        rows = [[1, -32, -4, 36, 4, 0, 0], [1, -24, -1, 6, 0, 2, 0], [0, 0, 1, 0, 0, 0, 1]]
        sums = [(0, 1), (0, 1), (1, 1)]
        self.assertEqual(self.proves(rows, sums, [-3, 80, -2, 24, 0, 0, 0]), -5)

    def test_against_all_corners(self):
        chance = random.Random(1)
        answers = []
        for _ in range(250):
            many, wide = chance.randint(1, 4), chance.randint(1, 6)
            # The first row has all values bounded, so no price falls without end.
            rows = [[chance.randint(1, 5) for _ in range(wide)]]
            rows += [[chance.randint(-4, 4) for _ in range(wide)] for _ in range(many - 1)]
            sums = [(chance.randint(0, 6), 1)] + [(chance.randint(-1, 1), 1) for _ in rows[1:]]
            prices = [chance.randint(-9, 9) for _ in range(wide)]
            corners = oracle.corners([row + [top] for row, (top, _) in zip(rows, sums)])
            answer = self.proves(rows, sums, prices)
            answers.append(answer)
            self.assertEqual(answer, min((times(prices, corner) for corner in corners), default=None))
        self.assertTrue(50 < answers.count(None) < 200)


if __name__ == "__main__":
    unittest.main()
