"""Units: points 2 and 10."""

import unittest

from stairyard.errors import BadUnit, BadUnits
from stairyard.units import need_unit, need_units, sizes
from tests.tools import SMALL_UNITS, YardCase, size_of, wrong_units


class NeedUnits(YardCase):
    def test_good_units(self):
        for units in (*SMALL_UNITS, (10,), (10, 10, 10), (2, 10), (9, 2, 7)):
            self.assertEqual(need_units(units), units)
            self.made_of_tuples(need_units(units))

    def test_wrong_units(self):
        for value, error, told in wrong_units():
            with self.subTest(value=value):
                self.raises(error, told, need_units, value)

    def test_edges(self):
        for units in ((1,), (11,), (2, 1), (10, 11), (2, 2, 2, 2), (2.0,), (True,)):
            self.raises(BadUnits, {"value": units}, need_units, units)


class NeedUnit(YardCase):
    def test_units_from_greatest_to_least(self):
        for units in SMALL_UNITS:
            for unit in range(len(units) + 1):
                self.assertEqual(need_unit(units, unit), unit)
            self.raises(BadUnit, {"value": len(units) + 1}, need_unit, units, len(units) + 1)
            self.raises(BadUnit, {"value": -1}, need_unit, units, -1)

    def test_wrong(self):
        for units in SMALL_UNITS:
            self.wrong_each(need_unit, ("unit",), units, 0)


class Sizes(YardCase):
    def test_example(self):
        self.assertEqual(sizes((2, 3)), (6, 3, 1))

    def test_all(self):
        for units in (*SMALL_UNITS, (10, 10, 10), (4, 5, 6)):
            self.assertEqual(sizes(units), tuple(size_of(units, unit) for unit in range(len(units) + 1)))
            self.made_of_tuples(sizes(units))
        self.assertEqual(sizes(()), (1,))
        self.assertEqual(sizes((10, 10, 10)), (1000, 100, 10, 1))
        self.assertEqual(sizes((2, 3, 5)), (30, 15, 5, 1))

    def test_wrong(self):
        self.wrong_each(sizes, (), (2,))


if __name__ == "__main__":
    unittest.main()
