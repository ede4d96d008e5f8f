"""Asks in turn, lost rows, pieces opened, orders taken back: point 24."""

import itertools
import unittest

from stairyard.asking import lost_row, opened, served_in_turn, taken_back
from stairyard.errors import BadParameter, BadRows, BadUnit, NoRow, Unlike
from tests.tools import (
    SMALL_UNITS, YardCase, add, cut_from, has_all, left_over, lies_within, plain_stair, product_of, rows_to, serves,
    size_of, swapped, units_with_rows)

MOST = 10 ** 60


def plain_in_turn(units, stock, asks):
    """How many asks some way of serving them, ask by ask, serves, and all that can be left behind these."""
    rows = {stock}
    for count, ask in enumerate(asks):
        behind = set().union(*[left_over(units, row, ask) for row in rows])
        if not behind:
            return count, rows
        rows = behind
    return len(asks), rows


class InTurn(YardCase):
    def test_by_each_way_to_serve(self):
        for units, rows in units_with_rows(4):
            for stock in rows_to(units, 8)[::2]:
                for asks in product_of(rows[1:5], rows[-3:], rows[1:3]):
                    count, ways = plain_in_turn(units, stock, asks)
                    told = served_in_turn(units, stock, asks)
                    self.made_of_tuples(told)
                    self.assertEqual(told[0], count)
                    left = set().union(*[cut_from(units, way) for way in ways])
                    self.assertTrue(count == 0 or told[1] in left)
                    self.assertTrue(all(lies_within(units, way, told[1]) for way in ways))

    def test_in_any_order(self):
        for units, rows in units_with_rows(3):
            for stock in rows_to(units, 9)[-6:]:
                for asks in product_of(rows[1:4], rows[-2:], rows[1:3]):
                    side_by_side = served_in_turn(units, stock, (add(*asks),))
                    for turned in itertools.permutations(asks):
                        told = served_in_turn(units, stock, turned)
                        self.assertEqual(told[0] == 3, side_by_side[0] == 1)
                        if told[0] == 3:
                            self.assertEqual(told[1], side_by_side[1])

    def test_up_to_the_first_that_is_not_served(self):
        self.assertEqual(served_in_turn((2,), (1, 0), ((0, 1), (1, 0), (0, 1))), (1, (0, 1)))
        self.assertEqual(served_in_turn((2,), (1, 0), ((0, 3), (0, 1))), (0, (1, 0)))
        self.assertEqual(served_in_turn((2,), (1, 0), ((1, 0), (0, 0), (0, 1), (0, 0))), (2, (0, 0)))
        self.assertEqual(served_in_turn((2, 3), (2, 0, 1), ((0, 1, 4), (1, 0, 0))), (2, (0, 0, 0)))
        self.assertEqual(served_in_turn((2, 3), (2, 0, 1), ((0, 0, 1), (2, 0, 0))), (2, (0, 0, 0)))

    def test_no_asks_sixty_and_sixty_one(self):
        for units, rows in units_with_rows(5):
            for row in (*rows, (MOST,) * (len(units) + 1)):
                self.assertEqual(served_in_turn(units, row, ()), (0, row))
        self.assertEqual(served_in_turn((2,), (30, 0), ((0, 1),) * 60), (60, (0, 0)))
        self.assertEqual(served_in_turn((2,), (29, 1), ((0, 1),) * 60), (59, (0, 0)))
        self.raises(BadRows, {"place": ()}, served_in_turn, (2,), (30, 0), ((0, 1),) * 61)
        self.raises(BadRows, {"place": (1,)}, served_in_turn, (2,), (0, 0), ((0, 1), (0,)))

    def test_great_numbers(self):
        self.assertEqual(served_in_turn((10,), (MOST, MOST), ((0, MOST),) * 11), (11, (0, 0)))
        self.assertEqual(served_in_turn((10,), (MOST, MOST), ((0, MOST),) * 12), (11, (0, 0)))
        self.assertEqual(served_in_turn((10,), (MOST, 0), ((0, MOST - 1),)), (1, (9 * MOST // 10, 1)))

    def test_wrong(self):
        for units in ((), (2,), (2, 3)):
            row = (0,) * (len(units) + 1)
            self.wrong_each(served_in_turn, ("row", "rows"), units, row, ((1,) * len(row),))


class LostRow(YardCase):
    def test_one_serves_it_and_the_other_does_not(self):
        for units, rows in units_with_rows(7):
            for one, other in product_of(rows, rows):
                if lies_within(units, one, other):
                    self.raises(NoRow, {}, lost_row, units, one, other)
                    continue
                told = lost_row(units, one, other)
                self.made_of_tuples(told)
                self.assertTrue(serves(units, one, told) and not serves(units, other, told))
                stairs = list(zip(plain_stair(units, one), plain_stair(units, other)))
                unit = [more > less for more, less in stairs].index(True)
                self.assertEqual(told, swapped((0,) * len(told), unit, stairs[unit][1] + 1))

    def test_small_ones(self):
        self.assertEqual(lost_row((2, 3), (1, 0, 4), (0, 3, 0)), (1, 0, 0))
        self.assertEqual(lost_row((2, 3), (0, 3, 0), (1, 0, 4)), (0, 3, 0))
        self.assertEqual(lost_row((10,), (MOST, MOST), (MOST, MOST - 1)), (0, 11 * MOST))
        self.assertEqual(lost_row((), (MOST,), (0,)), (1,))

    def test_wrong(self):
        for units in ((), (2,), (2, 3)):
            row = (0,) * (len(units) + 1)
            self.wrong_each(lost_row, ("row", "row"), units, row, row)


class Opened(YardCase):
    def test_by_single_cuts(self):
        for units, rows in units_with_rows(8):
            kinds = range(len(units) + 1)
            for row, unit, to, many in product_of(rows, kinds, kinds, range(4)):
                if to <= unit:
                    self.raises(BadUnit, {"value": to}, opened, units, row, unit, to, many)
                    continue
                if many > row[unit]:
                    self.raises(NoRow, {}, opened, units, row, unit, to, many)
                    continue
                told = opened(units, row, unit, to, many)
                self.made_of_tuples(told)
                made = many * size_of(units, unit) // size_of(units, to)
                self.assertEqual(told, swapped(swapped(row, unit, row[unit] - many), to, row[to] + made))
                self.assertIn(told, cut_from(units, row))
                self.assertEqual(lies_within(units, row, told), many == 0)
                if many:
                    self.assertTrue(serves(units, row, lost_row(units, row, told)))

    def test_none_all_and_one_more(self):
        for units in SMALL_UNITS[1:]:
            row = tuple(range(3, 4 + len(units)))
            self.assertEqual(opened(units, row, 0, len(units), 0), row)
            self.assertEqual(opened(units, row, 0, 1, 3), (0, 4 + 3 * units[0], *row[2:]))
            self.raises(NoRow, {}, opened, units, row, 0, 1, 4)
        self.assertEqual(opened((2, 3), (0, 0, 0), 0, 2, 0), (0, 0, 0))
        self.raises(NoRow, {}, opened, (2, 3), (0, 9, 9), 0, 2, 1)
        self.assertEqual(opened((2, 3), (1, 2, 0), 0, 2, 1), (0, 2, 6))
        self.assertEqual(opened((2, 3), (1, 2, 0), 1, 2, 2), (1, 0, 6))

    def test_great_numbers(self):
        self.assertEqual(opened((10, 10), (MOST, 0, MOST), 0, 2, MOST), (0, 0, 101 * MOST))
        self.raises(NoRow, {}, opened, (10,), (MOST - 1, 0), 0, 1, MOST)
        self.raises(BadParameter, {"value": MOST + 1}, opened, (10,), (MOST, 0), 0, 1, MOST + 1)
        self.raises(BadParameter, {"value": -1}, opened, (10,), (MOST, 0), 0, 1, -1)
        self.raises(BadParameter, {"value": True}, opened, (10,), (MOST, 0), 0, 1, True)

    def test_the_least_unit_is_not_opened(self):
        for units in SMALL_UNITS:
            row = (1,) * (len(units) + 1)
            for to in (0, len(units), len(units) + 1, None):
                self.raises(BadUnit, {"value": to}, opened, units, row, len(units), to, 0)

    def test_wrong(self):
        for units in ((2,), (2, 3), (2, 2, 2)):
            row = (0,) * (len(units) + 1)
            self.wrong_each(opened, ("row", "unit", "unit", "many"), units, row, 0, 1, 0)
            self.wrong_each(opened, ("row", "unit", "unit", "many"), units, row, 0, 1, 5)


class TakenBack(YardCase):
    def test_rest_and_order_side_by_side(self):
        for units, rows in units_with_rows(8):
            for stock, order in product_of(rows, rows):
                stairs = zip(plain_stair(units, order), plain_stair(units, stock))
                full = [unit for unit, (asked, there) in enumerate(stairs) if asked > there]
                if full:
                    self.raises(Unlike, {"value": full[0]}, taken_back, units, stock, order)
                    continue
                told = taken_back(units, stock, order)
                self.made_of_tuples(told)
                back = [add(left, order) for left in left_over(units, stock, order)]
                self.assertIn(told, back)
                self.assertTrue(all(lies_within(units, row, told) for row in back))
                self.assertTrue(lies_within(units, told, stock))
                self.assertEqual(told == stock, has_all(stock, order))

    def test_small_and_great_ones(self):
        self.assertEqual(taken_back((2, 3), (2, 0, 1), (0, 1, 4)), (1, 1, 4))
        self.assertEqual(taken_back((10,), (MOST, MOST), (0, MOST)), (MOST, MOST))
        self.assertEqual(taken_back((10,), (MOST, 0), (0, MOST)), (9 * MOST // 10, MOST))
        self.raises(Unlike, {"value": 0}, taken_back, (10,), (MOST - 1, MOST), (MOST, MOST))
        self.raises(Unlike, {"value": 1}, taken_back, (10,), (MOST, MOST - 1), (MOST, MOST))

    def test_wrong(self):
        for units in ((), (2,), (2, 3)):
            row = (0,) * (len(units) + 1)
            self.wrong_each(taken_back, ("row", "row"), units, row, (1,) * len(row))


if __name__ == "__main__":
    unittest.main()
