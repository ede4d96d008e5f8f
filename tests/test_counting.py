"""The rows between two rows: point 23."""

import unittest

from stairyard.counting import count_between, row_steps, rows_between
from stairyard.errors import NoRow, TooGreat
from tests.tools import SMALL_UNITS, YardCase, lies_within, plain_stair, product_of, rows_to, units_with_rows

MOST = 10 ** 60


def longest_line(units, rows, low, known):
    """How many rows the longest line from `low` to the last one of ascending rows between has."""
    if low not in known:
        above = [row for row in rows if row != low and lies_within(units, low, row)]
        known[low] = 1 + max([longest_line(units, rows, row, known) for row in above], default=0)
    return known[low]


class Between(YardCase):
    def test_example(self):
        told = ((0, 1), (0, 2), (0, 3), (1, 0), (1, 1))
        self.assertEqual(rows_between((2,), (0, 1), (1, 1)), told)
        self.assertEqual(count_between((2,), (0, 1), (1, 1)), 5)
        self.assertEqual(row_steps((2,), (0, 1), (1, 1)), 4)

    def test_by_going_through_rows(self):
        for units, rows in units_with_rows(7):
            for low, high in product_of(rows, rows):
                between = tuple(row for row in rows
                                if lies_within(units, low, row) and lies_within(units, row, high))
                self.assertEqual(count_between(units, low, high), len(between))
                self.assertEqual(rows_between(units, low, high), between)
                self.made_of_tuples(rows_between(units, low, high))
                if between:
                    self.assertEqual(row_steps(units, low, high), longest_line(units, between, low, {}))
                else:
                    self.raises(NoRow, {}, row_steps, units, low, high)

    def test_greater_ones(self):
        for units in SMALL_UNITS:
            rows = rows_to(units, 24)
            high = rows[-1]
            within = [row for row in rows if lies_within(units, row, high)]
            self.assertEqual(count_between(units, (0,) * len(high), high), len(within))
            for low in within[::5]:
                between = tuple(row for row in within if lies_within(units, low, row))
                self.assertEqual(count_between(units, low, high), len(between))
                if len(between) <= 400:
                    self.assertEqual(rows_between(units, low, high), between)
                else:
                    self.raises(TooGreat, {"most": 400}, rows_between, units, low, high)

    def test_stairs_to_a_thousand(self):
        self.assertEqual(count_between((), (0,), (1000,)), 1001)
        self.assertEqual(count_between((), (1000,), (1000,)), 1)
        self.assertEqual(count_between((2,), (0, 0), (500, 0)), sum(1001 - 2 * many for many in range(501)))
        told = ((0, 9, 9, 9), (0, 9, 9, 10), (0, 9, 10, 0), (0, 10, 0, 0), (1, 0, 0, 0))
        self.assertEqual(rows_between((10, 10, 10), (0, 9, 9, 9), (1, 0, 0, 0)), told)
        for function in (count_between, rows_between):
            self.raises(TooGreat, {"most": 1000}, function, (), (0,), (1001,))
            self.raises(TooGreat, {"most": 1000}, function, (), (1001,), (1001,))
            self.raises(TooGreat, {"most": 1000}, function, (), (1002,), (1001,))
            self.raises(TooGreat, {"most": 1000}, function, (2,), (0, 0), (500, 1))
            self.raises(TooGreat, {"most": 1000}, function, (2,), (500, 1), (500, 1))
            self.raises(TooGreat, {"most": 1000}, function, (10, 10, 10), (0, 0, 0, 0), (1, 0, 0, 1))
            self.raises(TooGreat, {"most": 1000}, function, (10,), (MOST, MOST), (MOST, MOST))

    def test_four_hundred_rows(self):
        self.assertEqual(rows_between((), (0,), (399,)), tuple((many,) for many in range(400)))
        self.raises(TooGreat, {"most": 400}, rows_between, (), (0,), (400,))
        self.assertEqual(len(rows_between((), (1,), (400,))), 400)
        self.assertEqual(count_between((), (0,), (400,)), 401)
        self.assertEqual(len(rows_between((2,), (0, 0), (19, 0))), 400)
        self.assertEqual(count_between((2,), (0, 0), (19, 1)), 420)
        self.raises(TooGreat, {"most": 400}, rows_between, (2,), (0, 0), (19, 1))
        self.raises(TooGreat, {"most": 400}, rows_between, (2, 2, 2), (0, 0, 0, 0), (125, 0, 0, 0))

    def test_none_between(self):
        self.assertEqual(count_between((2,), (0, 3), (1, 0)), 0)
        self.assertEqual(rows_between((2,), (0, 3), (1, 0)), ())
        self.assertEqual(count_between((2, 2, 2), (0, 0, 0, MOST), (125, 0, 0, 0)), 0)
        self.assertEqual(rows_between((2, 2, 2), (0, 0, 0, MOST), (125, 0, 0, 0)), ())
        self.assertEqual(rows_between((2, 2, 2), (MOST, 0, 0, 0), (125, 0, 0, 0)), ())
        self.assertEqual(rows_between((2, 2, 2), (0, 0, 0, 1001), (125, 0, 0, 0)), ())

    def test_great_numbers(self):
        self.assertEqual(row_steps((), (0,), (MOST,)), MOST + 1)
        self.assertEqual(row_steps((10,), (0, 0), (MOST, MOST)), 12 * MOST + 1)
        self.raises(NoRow, {}, row_steps, (10,), (0, MOST), (MOST // 10 - 1, 9))
        self.raises(NoRow, {}, row_steps, (10,), (MOST, 0), (MOST - 1, MOST))

    def test_sum_of_differences(self):
        for units, rows in units_with_rows(9):
            for low, high in product_of(rows[::2], rows[::3]):
                if lies_within(units, low, high):
                    told = sum(plain_stair(units, high)) - sum(plain_stair(units, low)) + 1
                    self.assertEqual(row_steps(units, low, high), told)

    def test_wrong(self):
        for units in ((), (2,), (2, 3)):
            row = (0,) * (len(units) + 1)
            for function in (count_between, rows_between, row_steps):
                self.wrong_each(function, ("row", "row"), units, row, row)
                self.wrong_each(function, ("row", "row"), units, (MOST,) * len(row), row)
                self.wrong_each(function, ("row", "row"), units, row, (MOST,) * len(row))


if __name__ == "__main__":
    unittest.main()
