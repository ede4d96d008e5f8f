"""Layings, blocks, the greatest lot: points 8, 9, 17, 18 and 20."""

import unittest

from stairyard.errors import BadParameter, BadRow, TooGreat, Unlike
from stairyard.pieces import greatest_lot, is_laying, is_packed, laying, packed
from stairyard.stairs import lack
from tests.tools import (
    PAPERS, SMALL_UNITS, YardCase, add, lies_within, plain_stair, product_of, rows_to, serves,
    size_of, swapped, take, total_of, units_with_rows)

MOST = 10 ** 60


def one_unit(units, unit, many):
    return swapped((0,) * (len(units) + 1), unit, many)


def plain_is_laying(units, stock, order, value):
    """Whether rows are a laying, by single cuts out of the pieces of each unit."""
    for unit, row in enumerate(value):
        if any(row[:unit]) or not serves(units, one_unit(units, unit, stock[unit]), row):
            return False
    return add(*value) == order


def plain_packed(units, blocks, order):
    """The document's packing, piece by piece."""
    found = [[0] * (len(units) + 1) for _ in blocks]
    for unit, many in enumerate(order):
        for _ in range(many):
            for row, block in zip(found, blocks):
                left = size_of(units, block) - total_of(units, row)
                if block <= unit and left >= size_of(units, unit):
                    row[unit] += 1
                    break
            else:
                return None
    return tuple(map(tuple, found))


def first_full(units, order, stock):
    stairs = zip(plain_stair(units, order), plain_stair(units, stock))
    return [unit for unit, (asked, there) in enumerate(stairs) if asked > there][0]


class Laying(YardCase):
    def test_example(self):
        told = ((0, 1, 3), (0, 0, 0), (0, 0, 1))
        self.assertTrue(is_laying((2, 3), (2, 0, 1), (0, 1, 4), told))
        self.assertTrue(is_laying((2, 3), (2, 0, 1), (0, 1, 4), ((0, 1, 4), (0, 0, 0), (0, 0, 0))))
        self.assertFalse(is_laying((2, 3), (2, 0, 1), (0, 1, 4), ((0, 1, 2), (0, 0, 0), (0, 0, 2))))
        self.assertTrue(is_laying((2, 3), (2, 0, 1), (0, 1, 4), laying((2, 3), (2, 0, 1), (0, 1, 4))))

    def test_there_is_one_exactly_if_the_stock_serves_the_order(self):
        for units, rows in units_with_rows(8):
            for stock, order in product_of(rows, rows):
                if serves(units, stock, order):
                    told = laying(units, stock, order)
                    self.assertTrue(plain_is_laying(units, stock, order, told))
                    self.assertIs(is_laying(units, stock, order, told), True)
                    self.made_of_tuples(told)
                else:
                    full = first_full(units, order, stock)
                    self.raises(Unlike, {"value": full}, laying, units, stock, order)

    def test_judged(self):
        for units in ((), (2,), (3,), (2, 3), (2, 2, 2)):
            small = rows_to(units, {0: 3, 1: 4, 2: 3, 3: 2}[len(units)])
            stocks = [row for row in rows_to(units, 8) if max(row) <= 1 or len(units) < 2]
            for stock, order in product_of(stocks[::2], small):
                for value in product_of(*[small] * (len(units) + 1)):
                    if add(*value) == order or value[0] == order:
                        self.assertIs(is_laying(units, stock, order, value),
                                      plain_is_laying(units, stock, order, value))

    def test_no_laying(self):
        for units in SMALL_UNITS:
            row = (1,) * (len(units) + 1)
            good = laying(units, row, row)
            self.assertIs(is_laying(units, row, row, good), True)
            for value in (*PAPERS, list(good), good[:-1], good + (row,), good + ((0,) * len(row),)):
                self.assertIs(is_laying(units, row, row, value), False)
            for at in range(len(good)):
                for number in (True, None, -1, "1", 1 + MOST, [1]):
                    spoilt = swapped(good, at, swapped(good[at], at, number))
                    self.assertIs(is_laying(units, row, row, spoilt), False)
                for part in (*PAPERS, list(good[at]), good[at] + (0,), good[at][:-1]):
                    self.assertIs(is_laying(units, row, row, swapped(good, at, part)), False)

    def test_great_numbers(self):
        for units in SMALL_UNITS:
            row = (MOST,) * (len(units) + 1)
            told = laying(units, row, row)
            self.assertTrue(is_laying(units, row, row, told))
            self.assertEqual(add(*told), row)
        told = laying((10,), (MOST // 10, 0), (0, MOST))
        self.assertEqual(told, ((0, MOST), (0, 0)))
        self.assertTrue(is_laying((10,), (MOST // 10, 0), (0, MOST), told))
        self.raises(Unlike, {"value": 1}, laying, (10,), (MOST // 10 - 1, 9), (0, MOST))
        self.raises(Unlike, {"value": 0}, laying, (10,), (MOST - 1, MOST), (MOST, 0))

    def test_just_served_and_one_more(self):
        self.assertEqual(laying((2, 3), (1, 1, 0), (0, 3, 0)), ((0, 2, 0), (0, 1, 0), (0, 0, 0)))
        self.raises(Unlike, {"value": 1}, laying, (2, 3), (1, 1, 0), (0, 4, 0))
        self.raises(Unlike, {"value": 2}, laying, (2, 3), (1, 1, 0), (0, 3, 1))
        self.raises(Unlike, {"value": 0}, laying, (2, 3), (1, 1, 0), (2, 9, 0))

    def test_wrong(self):
        for units in ((), (2,), (2, 3)):
            row, more = (0,) * (len(units) + 1), (1,) * (len(units) + 1)
            self.wrong_each(laying, ("row", "row"), units, row, more)
            self.wrong_each(is_laying, ("row", "row", None), units, row, more, None)


class Blocks(YardCase):
    def test_piece_by_piece(self):
        for units in SMALL_UNITS:
            orders = rows_to(units, 9)
            kinds = range(len(units) + 1)
            for blocks in [blocks for many in range(4) for blocks in product_of(*[kinds] * many)]:
                stock = tuple(blocks.count(unit) for unit in kinds)
                for order in orders:
                    if serves(units, stock, order):
                        told = packed(units, blocks, order)
                        self.assertEqual(told, plain_packed(units, blocks, order))
                        self.assertIs(is_packed(units, blocks, order, told), True)
                        self.made_of_tuples(told)
                    else:
                        full = first_full(units, order, stock)
                        self.raises(Unlike, {"value": full}, packed, units, blocks, order)

    def test_the_first_block_with_room(self):
        self.assertEqual(packed((2, 3), (1, 0, 0, 2), (1, 1, 4)), ((0, 1, 0), (1, 0, 0), (0, 0, 4), (0, 0, 0)))
        self.assertEqual(packed((2, 3), (2, 1, 0), (0, 0, 5)), ((0, 0, 1), (0, 0, 3), (0, 0, 1)))
        self.assertEqual(packed((2, 3), (2, 0, 1), (0, 1, 0)), ((0, 0, 0), (0, 1, 0), (0, 0, 0)))
        self.assertEqual(packed((2,), (), (0, 0)), ())
        self.assertEqual(packed((), (0, 0), (1,)), ((1,), (0,)))

    def test_judged(self):
        for units in ((), (2,), (2, 3)):
            small = rows_to(units, 3)
            for blocks in product_of(range(len(units) + 1), range(len(units) + 1)):
                for value, order in product_of(product_of(small, small), small):
                    good = all(serves(units, one_unit(units, block, 1), row) for block, row in zip(blocks, value))
                    told = good and add(*value) == order
                    self.assertIs(is_packed(units, blocks, order, value), told)

    def test_no_paper(self):
        good = packed((2, 3), (0, 1), (0, 2, 3))
        self.assertEqual(good, ((0, 2, 0), (0, 0, 3)))
        for value in (*PAPERS, list(good), good[:1], good + ((0, 0, 0),), ((0, 2, 0), [0, 0, 3]), good[::-1],
                      ((0, 2, 0), (0, 0, 3.0)), ((0, 2, 0), (0, False, 3)), ((0, 2, 0), (0, 0, 3, 0)),
                      ((0, 2, 3), (0, 0, 0)), ((0, 2, 0), None), ((0, 2, 0), (0, 0, 2)), ((0, 3, 0), (0, -1, 3))):
            self.assertIs(is_packed((2, 3), (0, 1), (0, 2, 3), value), False)
        self.assertIs(is_packed((2, 3), (0, 1), (0, 2, 3), ((0, 1, 3), (0, 1, 0))), True)
        self.assertIs(is_packed((2,), (), (0, 0), ()), True)
        self.assertIs(is_packed((2,), (), (0, 1), ()), False)

    def test_sixty_and_sixty_one_blocks(self):
        blocks = (1,) * 60
        self.assertEqual(packed((2,), blocks, (0, 60)), ((0, 1),) * 60)
        self.assertTrue(is_packed((2,), blocks, (0, 60), ((0, 1),) * 60))
        self.assertEqual(packed((2,), (0, 1) * 30, (30, 30)), ((1, 0), (0, 1)) * 30)
        for function, more in ((packed, ()), (is_packed, (None,))):
            self.raises(TooGreat, {"most": 60}, function, (2,), blocks + (1,), (0, 0), *more)
            self.raises(TooGreat, {"most": 60}, function, (2,), (None,) * 61, None, *more)
            self.raises(BadParameter, {"value": (None,) * 60}, function, (2,), (None,) * 60, None, *more)

    def test_a_thousand_pieces_and_one_more(self):
        told = packed((10, 10, 10), (0, 0), (0, 0, 0, 1000))
        self.assertEqual(told, ((0, 0, 0, 1000), (0, 0, 0, 0)))
        self.raises(TooGreat, {"most": 1000}, packed, (10, 10, 10), (0, 0), (0, 0, 0, 1001))
        self.raises(TooGreat, {"most": 1000}, packed, (10, 10, 10), (), (0, 0, 500, 501))
        self.raises(TooGreat, {"most": 1000}, packed, (2,), (), (MOST, 0))
        self.raises(BadRow, {"value": (0, MOST + 1)}, packed, (2,), (), (0, MOST + 1))
        self.assertEqual(packed((10, 10), (0,) * 11, (1, 0, 999))[:3], ((1, 0, 0), (0, 0, 100), (0, 0, 100)))
        self.raises(Unlike, {"value": 0}, packed, (10, 10), (0,) * 59, (60, 0, 0))

    def test_pieces_are_counted_and_not_what_they_make(self):
        blocks = (0,) * 60
        self.assertEqual(packed((10, 10, 10), blocks, (60, 0, 0, 0)), ((1, 0, 0, 0),) * 60)
        self.assertEqual(packed((10, 10), blocks, (50, 0, 950))[:50], ((1, 0, 0),) * 50)
        self.raises(TooGreat, {"most": 1000}, packed, (10, 10), blocks, (50, 0, 951))

    def test_a_paper_may_hold_more_than_a_thousand_pieces(self):
        order = (0, 0, 0, 2000)
        self.assertIs(is_packed((10, 10, 10), (0, 0), order, ((0, 0, 0, 1000),) * 2), True)
        self.assertIs(is_packed((10, 10, 10), (0, 0), order, ((0, 0, 0, 1001), (0, 0, 0, 999))), False)
        self.assertIs(is_packed((2,), (1,), (MOST, MOST), ((MOST, MOST),)), False)

    def test_wrong(self):
        for units in ((), (2,), (2, 3)):
            row, more = (0,) * (len(units) + 1), (1001,) * (len(units) + 1)
            self.wrong_each(packed, ("blocks", "row"), units, (0,), row)
            self.wrong_each(packed, ("blocks", "row"), units, (), more)
            self.wrong_each(is_packed, ("blocks", "row", None), units, (0,), more, None)


class GreatestLot(YardCase):
    def test_example(self):
        self.assertEqual(greatest_lot((2,), (1, 0), (1, 1)), (1, 0))
        self.assertEqual(lack((2,), (1, 1), (1, 0)), (0, 1))

    def test_by_going_through_lots(self):
        for units, rows in units_with_rows(7):
            for stock, order in product_of(rows, rows):
                lots = [lot for lot in product_of(*[range(many + 1) for many in order]) if serves(units, stock, lot)]
                told = greatest_lot(units, stock, order)
                self.made_of_tuples(told)
                self.assertIn(told, lots)
                self.assertTrue(all(lies_within(units, lot, told) for lot in lots))
                missing = take(order, told)
                self.assertEqual(missing, lack(units, order, stock))
                self.assertTrue(all(lies_within(units, missing, take(order, lot)) for lot in lots))

    def test_just_served_and_one_more(self):
        self.assertEqual(greatest_lot((2, 3), (1, 1, 0), (0, 3, 0)), (0, 3, 0))
        self.assertEqual(greatest_lot((2, 3), (1, 1, 0), (0, 4, 0)), (0, 3, 0))
        self.assertEqual(greatest_lot((2, 3), (1, 1, 0), (0, 3, 1)), (0, 3, 0))

    def test_great_numbers(self):
        for units in SMALL_UNITS:
            row = (MOST,) * (len(units) + 1)
            self.assertEqual(greatest_lot(units, row, row), row)
        self.assertEqual(greatest_lot((10,), (MOST // 10, 0), (0, MOST)), (0, MOST))
        self.assertEqual(greatest_lot((10,), (MOST // 10 - 1, 3), (0, MOST)), (0, MOST - 7))
        self.assertEqual(greatest_lot((), (MOST,), (5,)), (5,))

    def test_wrong(self):
        for units in ((), (2,), (2, 3)):
            row = (0,) * (len(units) + 1)
            self.wrong_each(greatest_lot, ("row", "row"), units, row, row)


if __name__ == "__main__":
    unittest.main()
