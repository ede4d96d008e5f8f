"""Rows, stairs, lying within: points 2, 3, 4, 11 and 12."""

import unittest

from stairyard.errors import BadRow, BadRows, BadStair, NoRow
from stairyard.rows import (
    full_unit, is_within, need_row, need_rows, need_stair, row_of, side_by_side, stair_of, total)
from tests.tools import (
    SMALL_UNITS, YardCase, add, cut_from, is_plain_stair, plain_stair, product_of, rows_to, serves, single_cuts,
    swapped, take, total_of, units_with_rows)

MOST = 10 ** 60


class NeedRow(YardCase):
    def test_good_rows(self):
        for units, rows in units_with_rows(6):
            for row in (*rows, (MOST,) * (len(units) + 1)):
                self.assertEqual(need_row(units, row), row)

    def test_edges(self):
        for units in SMALL_UNITS:
            for at in range(len(units) + 1):
                for number in (MOST + 1, -1, True, False, None):
                    row = (0,) * at + (number,) + (0,) * (len(units) - at)
                    self.raises(BadRow, {"value": row}, need_row, units, row)

    def test_wrong(self):
        for units in SMALL_UNITS:
            self.wrong_each(need_row, ("row",), units, (0,) * (len(units) + 1))


class NeedRows(YardCase):
    def test_good_rows(self):
        for units, rows in units_with_rows(5):
            for many in (0, 1, 2, 60):
                value = (tuple(rows) * 60)[:many]
                self.assertEqual(need_rows(units, value), value)

    def test_sixty_one(self):
        self.raises(BadRows, {"place": ()}, need_rows, (2,), ((0, 1),) * 61)

    def test_the_first_wrong_one_is_told(self):
        self.raises(BadRows, {"place": (1,)}, need_rows, (2,), ((0, 1), (0, True), [0, 1]))
        self.raises(BadRows, {"place": (59,)}, need_rows, (2,), ((0, 1),) * 59 + ((0, MOST + 1),))

    def test_wrong(self):
        for units in ((), (2,), (2, 3)):
            self.wrong_each(need_rows, ("rows",), units, ())


class Total(YardCase):
    def test_all(self):
        for units, rows in units_with_rows(13):
            for row in rows:
                self.assertEqual(total(units, row), total_of(units, row))
        self.assertEqual(total((2, 3), (1, 2, 4)), 16)
        self.assertEqual(total((10, 10, 10), (MOST,) * 4), 1111 * MOST)
        self.assertEqual(total((), (7,)), 7)

    def test_wrong(self):
        for units in ((), (2,), (2, 3, 2)):
            self.wrong_each(total, ("row",), units, (0,) * (len(units) + 1))


class SideBySide(YardCase):
    def test_zeros_for_no_rows(self):
        for units in SMALL_UNITS:
            self.assertEqual(side_by_side(units, ()), (0,) * (len(units) + 1))

    def test_added_place_by_place(self):
        for units, rows in units_with_rows(4):
            for three in product_of(rows[:5], rows[-5:], rows[:3]):
                self.assertEqual(side_by_side(units, three), add(*three))
        self.assertEqual(side_by_side((2, 3), ((1, 0, 4),)), (1, 0, 4))
        self.assertEqual(side_by_side((2,), ((MOST, 1),) * 60), (60 * MOST, 60))
        self.made_of_tuples(side_by_side((2,), ((1, 2), (3, 4))))

    def test_stairs_are_added(self):
        for units, rows in units_with_rows(5):
            for one, other in product_of(rows, rows):
                both = stair_of(units, side_by_side(units, (one, other)))
                self.assertEqual(both, add(stair_of(units, one), stair_of(units, other)))

    def test_wrong(self):
        for units in ((), (2,), (2, 3)):
            self.wrong_each(side_by_side, ("rows",), units, ())


class Stairs(YardCase):
    def test_example(self):
        self.assertEqual(stair_of((2, 3), (1, 0, 4)), (1, 2, 10))
        self.assertEqual(stair_of((2, 3), (0, 3, 0)), (0, 3, 9))
        self.assertFalse(is_within((2, 3), (1, 0, 4), (0, 3, 0)))
        self.assertFalse(is_within((2, 3), (0, 3, 0), (1, 0, 4)))
        self.assertEqual(full_unit((2, 3), (1, 0, 4), (0, 3, 0)), 0)
        self.assertEqual(full_unit((2, 3), (0, 3, 0), (1, 0, 4)), 1)

    def test_as_told(self):
        for units, rows in units_with_rows(13):
            for row in rows:
                self.assertEqual(stair_of(units, row), plain_stair(units, row))
                self.assertEqual(need_stair(units, stair_of(units, row)), stair_of(units, row))
                self.made_of_tuples(stair_of(units, row))
        self.assertEqual(stair_of((10, 10, 10), (MOST,) * 4), (MOST, 11 * MOST, 111 * MOST, 1111 * MOST))

    def test_one_to_one(self):
        for units in SMALL_UNITS:
            found = 0
            for numbers in product_of(*[range(-1, 9)] * (len(units) + 1)):
                if is_plain_stair(units, numbers):
                    found += 1
                    self.assertEqual(need_stair(units, numbers), numbers)
                    self.assertEqual(stair_of(units, row_of(units, numbers)), numbers)
                    self.made_of_tuples(row_of(units, numbers))
                else:
                    self.raises(BadStair, {"value": numbers}, need_stair, units, numbers)
                    self.raises(BadStair, {"value": numbers}, row_of, units, numbers)
            rows = rows_to(units, 8)
            self.assertEqual(found, len(rows))
            for row in rows:
                self.assertEqual(row_of(units, stair_of(units, row)), row)

    def test_great_stairs(self):
        most = 10 ** 64
        self.assertEqual(need_stair((2,), (0, most)), (0, most))
        self.assertEqual(row_of((2,), (0, most)), (0, most))
        self.assertEqual(row_of((2,), (most // 2, most)), (most // 2, 0))
        self.assertEqual(row_of((), (most,)), (most,))
        for function in (need_stair, row_of):
            self.raises(BadStair, {"value": (0, most + 1)}, function, (2,), (0, most + 1))
            self.raises(BadStair, {"value": (most, most)}, function, (2,), (most, most))
            self.raises(BadStair, {"value": (most // 2 + 1, most)}, function, (2,), (most // 2 + 1, most))

    def test_a_cut_changes_the_stair_at_its_unit_alone(self):
        for units, rows in units_with_rows(9):
            for row in rows:
                for unit, cut in single_cuts(units, row):
                    less = tuple(int(at == unit) for at in range(len(row)))
                    self.assertEqual(stair_of(units, cut), take(stair_of(units, row), less))

    def test_wrong(self):
        for units in ((), (2,), (2, 3), (2, 3, 2)):
            self.wrong_each(stair_of, ("row",), units, (0,) * (len(units) + 1))
            self.wrong_each(need_stair, ("stair",), units, (0,) * (len(units) + 1))
            self.wrong_each(row_of, ("stair",), units, (0,) * (len(units) + 1))


class Within(YardCase):
    def test_cuts_lead_to_what_lies_within(self):
        for units, rows in units_with_rows(8):
            for stock, order in product_of(rows, rows):
                like = total_of(units, stock) == total_of(units, order)
                self.assertEqual(like and is_within(units, order, stock), order in cut_from(units, stock))

    def test_a_stock_serves_exactly_what_lies_within(self):
        for units, rows in units_with_rows(8):
            for stock, order in product_of(rows, rows):
                self.assertIs(is_within(units, order, stock), serves(units, stock, order))

    def test_each_within_the_other_is_equal(self):
        for units, rows in units_with_rows(6):
            for one, other in product_of(rows, rows):
                both = is_within(units, one, other) and is_within(units, other, one)
                self.assertEqual(both, one == other)

    def test_full_unit(self):
        for units, rows in units_with_rows(6):
            for order, stock in product_of(rows, rows):
                full = [unit for unit in range(len(units) + 1)
                        if plain_stair(units, order)[unit] > plain_stair(units, stock)[unit]]
                if full:
                    self.assertEqual(full_unit(units, order, stock), full[0])
                else:
                    self.raises(NoRow, {}, full_unit, units, order, stock)

    def test_great_numbers(self):
        for units in SMALL_UNITS:
            stock = (MOST,) * (len(units) + 1)
            self.assertTrue(is_within(units, stock, stock))
            for unit in range(len(units) + 1):
                order = tuple(MOST - (at != unit) for at in range(len(units) + 1))
                self.assertTrue(is_within(units, order, stock))
                self.assertEqual(full_unit(units, stock, swapped(stock, unit, MOST - 1)), unit)
        self.assertEqual(full_unit((2,), (0, MOST), (0, MOST - 1)), 1)
        self.assertEqual(full_unit((2,), (MOST, 0), (MOST - 1, MOST)), 0)

    def test_wrong(self):
        for units in ((), (2,), (2, 3)):
            row = (0,) * (len(units) + 1)
            self.wrong_each(is_within, ("row", "row"), units, row, row)
            self.wrong_each(full_unit, ("row", "row"), units, row, row)


if __name__ == "__main__":
    unittest.main()
