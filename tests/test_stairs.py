"""UP and DOWN, what is lacking and what is left: points 5, 13 and 14."""

import unittest

from stairyard.errors import BadNumbers, NoRow
from stairyard.rows import stair_of
from stairyard.stairs import down, higher_of, lack, lower_of, need_numbers, rest, up
from tests.tools import (
    SMALL_UNITS, YardCase, add, has_all, is_plain_stair, left_over, lies_within, plain_stair, product_of, rows_to,
    serves, take, units_with_rows)

MOST = 10 ** 64


def plain_stairs(units, most):
    return [plain_stair(units, row) for row in rows_to(units, most)]


class NeedNumbers(YardCase):
    def test_good_numbers(self):
        for units in SMALL_UNITS:
            for number in (0, 1, -1, MOST, -MOST):
                numbers = (number,) * (len(units) + 1)
                self.assertEqual(need_numbers(units, numbers), numbers)

    def test_edges(self):
        for number in (MOST + 1, -MOST - 1, True, False):
            for function in (need_numbers, up, down):
                self.raises(BadNumbers, {"value": (0, number)}, function, (2,), (0, number))
                self.raises(BadNumbers, {"value": (number, -1)}, function, (2,), (number, -1))

    def test_wrong(self):
        for units in ((), (2,), (2, 3, 2)):
            for function in (need_numbers, up, down):
                self.wrong_each(function, ("numbers",), units, (0,) * (len(units) + 1))


class UpAndDown(YardCase):
    def test_examples(self):
        self.assertEqual(up((2, 3), (1, 1, 8)), (1, 2, 8))
        self.assertEqual(down((2, 3), (1, 1, 8)), (0, 1, 8))
        self.assertEqual(up((2,), (-1, 1)), (0, 1))
        self.assertEqual(up((), (-3,)), (0,))
        self.assertEqual(down((), (3,)), (3,))

    def test_least_and_greatest_stairs(self):
        for units in SMALL_UNITS:
            stairs = plain_stairs(units, 40 if len(units) < 3 else 30)
            reach = 4 if len(units) == 3 else 5
            for numbers in product_of(*[range(-2, reach)] * (len(units) + 1)):
                told = up(units, numbers)
                self.made_of_tuples(told)
                self.assertTrue(is_plain_stair(units, told) and has_all(told, numbers))
                self.assertTrue(all(has_all(stair, told) for stair in stairs if has_all(stair, numbers)))
                if min(numbers) < 0:
                    self.raises(NoRow, {}, down, units, numbers)
                    continue
                told = down(units, numbers)
                self.made_of_tuples(told)
                self.assertTrue(is_plain_stair(units, told) and has_all(numbers, told))
                self.assertTrue(all(has_all(told, stair) for stair in stairs if has_all(numbers, stair)))

    def test_great_numbers(self):
        self.assertEqual(up((10, 10, 10), (MOST, 0, -MOST, MOST)), (MOST, 10 * MOST, 100 * MOST, 1000 * MOST))
        self.assertEqual(up((2,), (-MOST, -MOST)), (0, 0))
        self.assertEqual(down((10, 10), (MOST,) * 3), (MOST // 100, MOST // 10, MOST))
        self.raises(NoRow, {}, down, (2,), (MOST, -MOST))
        self.raises(NoRow, {}, down, (2,), (-1, 0))


class Lacking(YardCase):
    def test_example(self):
        self.assertEqual(lack((2,), (0, 3), (1, 0)), (0, 1))

    def test_the_least_row_that_serves_together(self):
        for units, rows in units_with_rows(5):
            more = rows_to(units, 5)
            for order, stock in product_of(rows, rows):
                told = lack(units, order, stock)
                enough = [row for row in more if serves(units, add(stock, row), order)]
                self.assertIn(told, enough)
                self.assertTrue(all(lies_within(units, told, row) for row in enough))
                self.assertEqual(told == (0,) * len(told), serves(units, stock, order))
                self.made_of_tuples(told)

    def test_great_numbers(self):
        most = 10 ** 60
        self.assertEqual(lack((2,), (most, most), (0, most)), (most, 0))
        self.assertEqual(lack((10, 10, 10), (most,) * 4, (0,) * 4), (most,) * 4)
        self.assertEqual(lack((2, 3), (1, 0, 4), (0, 3, 0)), (1, 0, 0))

    def test_wrong(self):
        for units in ((), (2,), (2, 3)):
            row = (0,) * (len(units) + 1)
            self.wrong_each(lack, ("row", "row"), units, row, row)


class Left(YardCase):
    def test_example(self):
        self.assertEqual(rest((2,), (1, 0), (0, 1)), (0, 1))

    def test_the_greatest_row_that_is_served_together(self):
        for units, rows in units_with_rows(7):
            for stock, order in product_of(rows, rows):
                left = left_over(units, stock, order)
                if not left:
                    self.raises(NoRow, {}, rest, units, stock, order)
                    continue
                told = rest(units, stock, order)
                self.made_of_tuples(told)
                self.assertIn(told, left)
                self.assertTrue(all(lies_within(units, row, told) for row in left))
                for row in rows:
                    self.assertEqual(serves(units, stock, add(order, row)), lies_within(units, row, told))

    def test_one_behind_the_other(self):
        for units, rows in units_with_rows(5):
            stock = (2,) * (len(units) + 1)
            for one, other in product_of(rows, rows):
                if serves(units, stock, add(one, other)):
                    behind = rest(units, rest(units, stock, one), other)
                    self.assertEqual(behind, rest(units, stock, add(one, other)))

    def test_an_order_equal_to_its_stock(self):
        for units, rows in units_with_rows(6):
            for row in (*rows, (10 ** 60,) * (len(units) + 1)):
                self.assertEqual(rest(units, row, row), (0,) * len(row))
                self.assertEqual(lack(units, row, row), (0,) * len(row))

    def test_great_numbers(self):
        most = 10 ** 60
        self.assertEqual(rest((10, 10, 10), (most,) * 4, (0,) * 4), (most,) * 4)
        self.assertEqual(rest((10,), (most, 0), (0, 1)), (most - 1, 9))
        self.assertEqual(rest((10,), (most, most), (most, most - 1)), (0, 1))
        self.raises(NoRow, {}, rest, (10,), (most - 1, most), (most, 0))

    def test_wrong(self):
        for units in ((), (2,), (2, 3)):
            row = (0,) * (len(units) + 1)
            self.wrong_each(rest, ("row", "row"), units, row, row)
            self.wrong_each(rest, ("row", "row"), units, row, (1,) * (len(units) + 1))


class GreaterAndLesser(YardCase):
    def test_least_that_serves_either_greatest_that_both_serve(self):
        for units, rows in units_with_rows(6):
            others = rows_to(units, 9)
            for one, other in product_of(rows, rows):
                high, low = higher_of(units, one, other), lower_of(units, one, other)
                self.made_of_tuples((high, low))
                above = [row for row in others if lies_within(units, one, row) and lies_within(units, other, row)]
                below = [row for row in others if lies_within(units, row, one) and lies_within(units, row, other)]
                self.assertTrue(lies_within(units, one, high) and lies_within(units, other, high))
                self.assertTrue(all(lies_within(units, high, row) for row in above))
                self.assertIn(low, below)
                self.assertTrue(all(lies_within(units, row, low) for row in below))
                self.assertEqual(add(high, low), add(one, other))

    def test_items_of_stairs(self):
        for units, rows in units_with_rows(7):
            for one, other in product_of(rows, rows):
                pairs = list(zip(plain_stair(units, one), plain_stair(units, other)))
                self.assertEqual(stair_of(units, higher_of(units, one, other)), tuple(map(max, pairs)))
                self.assertEqual(stair_of(units, lower_of(units, one, other)), tuple(map(min, pairs)))

    def test_a_third_row_beside_both(self):
        for units, rows in units_with_rows(4):
            for one, other, third in product_of(rows, rows, rows):
                for function in (higher_of, lower_of):
                    beside = function(units, add(one, third), add(other, third))
                    self.assertEqual(beside, add(function(units, one, other), third))

    def test_small_ones(self):
        self.assertEqual(higher_of((2, 3), (1, 0, 4), (0, 3, 0)), (1, 1, 1))
        self.assertEqual(lower_of((2, 3), (1, 0, 4), (0, 3, 0)), (0, 2, 3))
        most = 10 ** 60
        self.assertEqual(higher_of((2,), (most, 0), (0, most)), (most, 0))
        self.assertEqual(lower_of((2,), (most, 0), (0, most)), (0, most))

    def test_wrong(self):
        for units in ((), (2,), (2, 3)):
            row = (0,) * (len(units) + 1)
            self.wrong_each(higher_of, ("row", "row"), units, row, row)
            self.wrong_each(lower_of, ("row", "row"), units, row, row)


class FactsOfUpAndDown(YardCase):
    def test_up_tells_what_is_nowhere_less(self):
        """X + D is nowhere less than Y exactly if X is nowhere less than UP(Y - D)."""
        for units in ((), (2,), (2, 3), (2, 2, 2)):
            stairs = plain_stairs(units, 6)
            for numbers in product_of(*[range(-2, 3)] * (len(units) + 1)):
                for other in stairs[::2]:
                    least = up(units, take(other, numbers))
                    for stair in stairs:
                        self.assertEqual(has_all(add(stair, numbers), other), has_all(stair, least))

    def test_down_tells_what_is_nowhere_greater(self):
        """O + N is nowhere greater than X exactly if there is DOWN(X - O) and N is nowhere greater than this."""
        for units in ((), (2,), (2, 3), (2, 2, 2)):
            stairs = plain_stairs(units, 7)
            for stock, order in product_of(stairs, stairs):
                over = take(stock, order)
                most = down(units, over) if min(over) >= 0 else None
                for row in stairs:
                    fits = most is not None and has_all(most, row)
                    self.assertEqual(has_all(stock, add(order, row)), fits)


if __name__ == "__main__":
    unittest.main()
