"""The least stock for some orders, the greatest order of some stocks: point 21."""

import unittest

from stairyard.errors import BadRows
from stairyard.orders import greatest_common, least_for
from tests.tools import (
    SMALL_UNITS, YardCase, add, lies_within, plain_stair, product_of, rows_to, serves, units_with_rows)

MOST = 10 ** 60


class LeastAndGreatest(YardCase):
    def test_by_going_through_rows(self):
        for units, rows in units_with_rows(5):
            stocks = rows_to(units, 8)
            for three in product_of(rows, rows[::2], rows[::3]):
                least, greatest = least_for(units, three), greatest_common(units, three)
                self.made_of_tuples((least, greatest))
                stairs = list(zip(*[plain_stair(units, row) for row in three]))
                self.assertEqual(plain_stair(units, least), tuple(map(max, stairs)))
                self.assertEqual(plain_stair(units, greatest), tuple(map(min, stairs)))
                for stock in stocks[::3]:
                    enough = all(serves(units, stock, row) for row in three)
                    self.assertEqual(enough, lies_within(units, least, stock))
                    common = all(serves(units, row, stock) for row in three)
                    self.assertEqual(common, lies_within(units, stock, greatest))

    def test_no_rows(self):
        for units in SMALL_UNITS:
            self.assertEqual(least_for(units, ()), (0,) * (len(units) + 1))
            self.raises(BadRows, {"place": ()}, greatest_common, units, ())

    def test_one_row_and_sixty(self):
        for units, rows in units_with_rows(6):
            for row in (*rows, (MOST,) * (len(units) + 1)):
                self.assertEqual(least_for(units, (row,)), row)
                self.assertEqual(greatest_common(units, (row,)), row)
                self.assertEqual(least_for(units, (row,) * 60), row)
                self.assertEqual(greatest_common(units, (row,) * 60), row)
                self.raises(BadRows, {"place": ()}, least_for, units, (row,) * 61)
                self.raises(BadRows, {"place": ()}, greatest_common, units, (row,) * 61)
        sixty = tuple((many, 59 - many) for many in range(60))
        self.assertEqual(least_for((3,), sixty), (59, 0))
        self.assertEqual(greatest_common((3,), sixty), (0, 59))

    def test_a_row_beside_each_of_them(self):
        for units, rows in units_with_rows(4):
            for one, other, more in product_of(rows, rows, rows):
                beside = (add(one, more), add(other, more))
                self.assertEqual(least_for(units, beside), add(least_for(units, (one, other)), more))
                self.assertEqual(greatest_common(units, beside), add(greatest_common(units, (one, other)), more))

    def test_small_ones(self):
        self.assertEqual(least_for((2, 3), ((1, 0, 4), (0, 3, 0))), (1, 1, 1))
        self.assertEqual(greatest_common((2, 3), ((1, 0, 4), (0, 3, 0))), (0, 2, 3))

    def test_wrong(self):
        for units in ((), (2,), (2, 3)):
            row = (0,) * (len(units) + 1)
            self.wrong_each(least_for, ("rows",), units, (row,))
            self.wrong_each(greatest_common, ("rows",), units, (row,))
            self.wrong_each(greatest_common, ("rows",), units, ())


if __name__ == "__main__":
    unittest.main()
