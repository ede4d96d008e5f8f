"""Cuts done one by one, the fewest ones, plans of them: points 4, 8, 9 and 19."""

import unittest

from stairyard.cutting import cut_by, cut_once, cut_plan, fewest_cuts, is_cut_plan
from stairyard.errors import BadSteps, BadUnit, NoRow, TooGreat, Unlike
from tests.tools import (
    PAPERS, SMALL_UNITS, YardCase, cut_from, has_all, plain_stair, product_of, rows_to, serves, single_cuts, take,
    units_with_rows)

MOST = 10 ** 60


def all_cuts(units, stock, order):
    """How many cuts at each unit there are on each way on which the stock serves the order."""
    stair = plain_stair(units, stock)
    ways = [row for row in cut_from(units, stock) if has_all(row, order)]
    return [take(stair, plain_stair(units, row))[:-1] for row in ways]


class SingleCuts(YardCase):
    def test_one_cut(self):
        for units, rows in units_with_rows(8):
            for row in rows:
                behind = dict(single_cuts(units, row))
                for unit in range(len(units)):
                    if unit in behind:
                        self.assertEqual(cut_once(units, row, unit), behind[unit])
                        self.assertEqual(cut_by(units, row, (unit,)), behind[unit])
                        self.made_of_tuples(cut_once(units, row, unit))
                    else:
                        self.raises(NoRow, {}, cut_once, units, row, unit)
                        self.raises(BadSteps, {"place": (0,)}, cut_by, units, row, (unit,))
                self.raises(BadUnit, {"value": len(units)}, cut_once, units, row, len(units))
                self.assertEqual(cut_by(units, row, ()), row)

    def test_cuts_in_turn(self):
        for units in SMALL_UNITS:
            for row in rows_to(units, 12)[-8:]:
                for cuts in product_of(*[range(len(units))] * 3):
                    now, place = row, None
                    for index, unit in enumerate(cuts):
                        behind = dict(single_cuts(units, now))
                        if unit not in behind:
                            place = (index,)
                            break
                        now = behind[unit]
                    if place is None:
                        self.assertEqual(cut_by(units, row, cuts), now)
                    else:
                        self.raises(BadSteps, {"place": place}, cut_by, units, row, cuts)

    def test_the_first_cut_that_cannot_be_done(self):
        self.raises(BadSteps, {"place": (1,)}, cut_by, (2,), (1, 0), (0, 0, None))
        self.raises(BadSteps, {"place": (1,)}, cut_by, (2,), (1, 0), (0, None, 0))
        self.raises(BadSteps, {"place": (0,)}, cut_by, (2,), (1, 9), (1, 0))

    def test_sixty_and_sixty_one(self):
        self.assertEqual(cut_by((2,), (60, 0), (0,) * 60), (0, 120))
        self.raises(TooGreat, {"most": 60}, cut_by, (2,), (61, 0), (0,) * 61)
        self.raises(TooGreat, {"most": 60}, cut_by, (2,), (0, 0), (0,) * 61)
        self.raises(BadSteps, {"place": (59,)}, cut_by, (2,), (59, 0), (0,) * 60)

    def test_great_numbers(self):
        self.assertEqual(cut_once((2,), (MOST, MOST), 0), (MOST - 1, MOST + 2))
        self.assertEqual(cut_by((2, 2), (1, MOST, 0), (0, 1, 1)), (0, MOST, 4))

    def test_wrong(self):
        for units in ((), (2,), (2, 3)):
            self.wrong_each(cut_by, ("row", "cuts"), units, (0,) * (len(units) + 1), ())
        for units in ((2,), (2, 3)):
            self.wrong_each(cut_once, ("row", "cut unit"), units, (0,) * (len(units) + 1), 0)
        self.raises(BadUnit, {"value": 0}, cut_once, (), (1,), 0)


class FewestCuts(YardCase):
    def test_example(self):
        self.assertEqual(fewest_cuts((2, 3), (2, 0, 1), (0, 1, 4)), (1, 1))
        self.assertEqual(cut_plan((2, 3), (2, 0, 1), (0, 1, 4)), (0, 1))
        self.assertTrue(is_cut_plan((2, 3), (2, 0, 1), (0, 1, 4), (0, 1)))

    def test_by_single_cuts(self):
        for units, rows in units_with_rows(9):
            for stock, order in product_of(rows, rows):
                ways = all_cuts(units, stock, order)
                if not ways:
                    full = [a > b for a, b in zip(plain_stair(units, order), plain_stair(units, stock))].index(True)
                    self.raises(Unlike, {"value": full}, fewest_cuts, units, stock, order)
                    self.raises(Unlike, {"value": full}, cut_plan, units, stock, order)
                    continue
                told = fewest_cuts(units, stock, order)
                self.assertIn(told, ways)
                self.assertTrue(all(has_all(way, told) for way in ways))
                plan = cut_plan(units, stock, order)
                self.assertEqual(plan, tuple(unit for unit, many in enumerate(told) for _ in range(many)))
                self.assertIs(is_cut_plan(units, stock, order, plan), True)
                self.made_of_tuples((told, plan))

    def test_just_served_and_one_more(self):
        self.assertEqual(fewest_cuts((10,), (7, 3), (0, 73)), (7,))
        self.assertEqual(fewest_cuts((10,), (7, 3), (0, 63)), (6,))
        self.assertEqual(fewest_cuts((10,), (7, 3), (0, 64)), (7,))
        self.raises(Unlike, {"value": 1}, fewest_cuts, (10,), (7, 3), (0, 74))
        self.raises(Unlike, {"value": 0}, fewest_cuts, (10,), (7, 3), (8, 74))
        self.assertEqual(fewest_cuts((), (7,), (7,)), ())
        self.assertEqual(cut_plan((), (7,), (7,)), ())
        self.raises(Unlike, {"value": 0}, cut_plan, (), (7,), (8,))

    def test_great_numbers(self):
        self.assertEqual(fewest_cuts((10,), (MOST // 10, 0), (0, MOST)), (MOST // 10,))
        self.assertEqual(fewest_cuts((10, 10), (MOST, 0, 0), (0, 0, MOST)), (MOST // 100, MOST // 10))
        self.assertEqual(fewest_cuts((10, 10), (MOST, 0, 1), (0, 0, MOST)), (MOST // 100, MOST // 10))
        self.assertEqual(fewest_cuts((3,), (MOST, 0), (0, MOST)), ((MOST + 2) // 3,))
        self.raises(TooGreat, {"most": 60}, cut_plan, (10,), (MOST // 10, 0), (0, MOST))

    def test_sixty_and_sixty_one(self):
        self.assertEqual(cut_plan((2,), (61, 0), (0, 120)), (0,) * 60)
        self.raises(TooGreat, {"most": 60}, cut_plan, (2,), (61, 0), (0, 121))
        self.assertEqual(fewest_cuts((2,), (61, 0), (0, 121)), (61,))
        self.raises(Unlike, {"value": 1}, cut_plan, (2,), (61, 0), (0, 123))
        self.assertEqual(cut_plan((2, 3), (20, 0, 0), (0, 0, 120)), (0,) * 20 + (1,) * 40)
        self.raises(TooGreat, {"most": 60}, cut_plan, (2, 3), (21, 0, 0), (0, 0, 121))

    def test_wrong(self):
        for units in ((), (2,), (2, 3)):
            row, more = (0,) * (len(units) + 1), (1,) * (len(units) + 1)
            for function in (fewest_cuts, cut_plan):
                self.wrong_each(function, ("row", "row"), units, row, row)
                self.wrong_each(function, ("row", "row"), units, row, more)
            self.wrong_each(is_cut_plan, ("row", "row", None), units, row, more, None)


class CutPlans(YardCase):
    def test_judged_by_single_cuts(self):
        for units, rows in units_with_rows(7):
            plans = [plan for many in range(4) for plan in product_of(*[range(len(units) + 1)] * many)]
            for stock in rows[::3]:
                behind = {}
                for plan in plans:
                    row = stock
                    for unit in plan:
                        row = dict(single_cuts(units, row)).get(unit) if row is not None else None
                    behind[plan] = row
                for order in rows[::2]:
                    for plan in plans:
                        told = behind[plan] is not None and has_all(behind[plan], order)
                        self.assertIs(is_cut_plan(units, stock, order, plan), told)

    def test_any_order_and_more_cuts_than_needed(self):
        self.assertIs(is_cut_plan((2, 3), (2, 1, 1), (0, 1, 4), (1, 0)), True)
        self.assertIs(is_cut_plan((2, 3), (2, 0, 1), (0, 1, 4), (1, 0)), False)
        self.assertIs(is_cut_plan((2, 3), (2, 0, 1), (0, 1, 4), (0, 0, 1)), True)
        self.assertIs(is_cut_plan((2, 3), (2, 0, 1), (0, 1, 4), (0, 1, 0)), True)
        self.assertIs(is_cut_plan((2, 3), (2, 0, 1), (0, 1, 4), (0, 1, 1)), False)
        self.assertIs(is_cut_plan((2, 3), (2, 0, 1), (0, 1, 4), (0,)), False)

    def test_sixty_and_sixty_one(self):
        self.assertIs(is_cut_plan((2,), (61, 0), (0, 120), (0,) * 60), True)
        self.assertIs(is_cut_plan((2,), (61, 0), (0, 120), (0,) * 61), False)
        self.assertIs(is_cut_plan((2,), (61, 0), (0, 0), (0,) * 61), False)
        self.assertIs(is_cut_plan((2,), (61, 0), (0, 121), (0,) * 61), False)

    def test_values_of_every_kind(self):
        for units in SMALL_UNITS:
            row, most = (1,) * (len(units) + 1), (MOST,) * (len(units) + 1)
            for value in PAPERS:
                # Among these, no cut and one cut at the unit 0 are the plans that can be done.
                none, one = repr(value) == "()", repr(value) == "(0,)"
                self.assertIs(is_cut_plan(units, row, row, value), none)
                self.assertIs(is_cut_plan(units, most, row, value), none or one and units != ())
        for value in ([0], (True,), (False,), ("0",), (-1,), (1,), (0, None), (0, [0]), ((0,),)):
            self.assertIs(is_cut_plan((2,), (5, 5), (0, 0), value), False)
        self.assertIs(is_cut_plan((2,), (5, 5), (0, 0), (0,)), True)

    def test_great_numbers(self):
        self.assertIs(is_cut_plan((2,), (MOST, MOST), (0, MOST), (0,)), True)
        self.assertIs(is_cut_plan((2, 2), (1, MOST, 0), (0, MOST, 4), (0, 1, 1)), True)
        self.assertIs(is_cut_plan((2,), (MOST, MOST), (MOST, MOST), (0,)), False)

    def test_serving(self):
        for units, rows in units_with_rows(6):
            for stock, order in product_of(rows, rows):
                if serves(units, stock, order):
                    self.assertTrue(is_cut_plan(units, stock, order, cut_plan(units, stock, order)))


if __name__ == "__main__":
    unittest.main()
