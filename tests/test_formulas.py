"""Formulas, their least rows, formulas apart: points 6, 7 and 22."""

import random
import unittest

from stairyard.errors import BadFormula, BadRow, NoRow, TooGreat
from stairyard.formulas import formula_apart, formula_stocks, is_enough_for, need_formula
from tests.tools import (
    SMALL_UNITS, YardCase, cut_from, least_of, lies_within, nested, product_of, rows_to, serves, take,
    units_with_rows)

MOST = 10 ** 60
WORDS = ("together", "any", "one")


def row(*many):
    return ("row", many)


def parts_of(stock):
    return product_of(*[range(many + 1) for many in stock])


def is_enough(units, formula, stock, known):
    """Whether a stock is enough, by cutting and parting it in each way that there is."""
    key = (formula, stock)
    if key not in known:
        known[key] = is_enough_anew(units, formula, stock, known)
    return known[key]


def is_enough_anew(units, formula, stock, known):
    word, inner = formula
    if word == "row":
        return serves(units, stock, inner)
    if word == "any":
        return all(is_enough(units, part, stock, known) for part in inner)
    if word == "one":
        return any(is_enough(units, part, stock, known) for part in inner)
    if not inner:
        return True
    if len(inner) == 1:
        return is_enough(units, inner[0], stock, known)
    others = ("together", inner[1:])
    return any(is_enough(units, inner[0], part, known) and is_enough(units, others, take(cut, part), known)
               for cut in cut_from(units, stock) for part in parts_of(cut))


def some_formula(chance, rows, deep):
    if deep == 1 or chance.random() < 0.3:
        return ("row", chance.choice(rows))
    many = chance.choice((0, 1, 2, 2, 3))
    return (chance.choice(WORDS), tuple(some_formula(chance, rows, deep - 1) for _ in range(many)))


def small_formulas(units, rows):
    """Formulas of up to two rows of each kind, and some chosen deeper ones."""
    rows = rows[:6]
    for word in WORDS:
        yield (word, ())
        for one in rows:
            yield (word, (("row", one),))
            for other in rows:
                yield (word, (("row", one), ("row", other)))
    chance = random.Random(7)
    for _ in range(40):
        yield some_formula(chance, rows[:4], 3)


def line(numbers, end, shift=0):
    """A formula for one of some rows of the units (2,), unlike each other, none of which lies within another one.

    Rows of two such lines, side by side, are again on a line, at the sum of both numbers.
    """
    return ("one", tuple(row(number + shift, 3 * (end - number)) for number in numbers))


def forty():
    """A formula of 15 parts with 40 least rows of the units (2,): (K + 1, 3 * (39 - K)) for K from 0 to 39."""
    return ("together", (line((0, 1, 2, 3), 3), line((0, 4, 8, 12), 12), line((0, 16, 24), 24, 1)))


def forty_one():
    return ("together", (line((0, 1, 2, 3), 3), line((0, 4, 8, 12), 12), line((0, 16, 25), 25, 1)))


class NeedFormula(YardCase):
    def test_good_formulas(self):
        for units, rows in units_with_rows(5):
            for formula in small_formulas(units, rows):
                self.assertEqual(need_formula(units, formula), formula)
                self.made_of_tuples(need_formula(units, formula))
        great = row(MOST, MOST)
        self.assertEqual(need_formula((2,), great), great)

    def test_none_to_four_things(self):
        for word in WORDS:
            for many in range(5):
                formula = (word, (row(0, 1),) * many)
                self.assertEqual(need_formula((2,), formula), formula)
            five = (word, (row(0, 1),) * 5)
            self.raises(BadFormula, {"path": ()}, need_formula, (2,), five)
            self.raises(BadFormula, {"path": (1, 1)}, need_formula, (2,), ("one", (row(0, 1), five)))

    def test_six_and_seven_deep(self):
        for deep in range(1, 7):
            self.assertEqual(need_formula((2,), nested(deep, row(0, 1))), nested(deep, row(0, 1)))
        self.assertEqual(need_formula((2,), nested(6, ("any", ()))), nested(6, ("any", ())))
        self.raises(TooGreat, {"most": 6}, need_formula, (2,), nested(7, row(0, 1)))
        self.raises(TooGreat, {"most": 6}, need_formula, (2,), nested(7, None))
        self.raises(TooGreat, {"most": 6}, need_formula, (2,), nested(5000, None))
        self.raises(BadFormula, {"path": (1, 0) * 5}, need_formula, (2,), nested(6, None))
        self.raises(BadFormula, {"path": (1, 0)}, need_formula, (2,), ("one", (None, nested(6, row(0, 1)))))
        self.raises(TooGreat, {"most": 6}, need_formula, (2,), ("one", (nested(6, row(0, 1)), None)))

    def test_twenty_and_twenty_one_parts(self):
        one = row(0, 1)
        four = ("any", (one,) * 4)
        twenty = ("any", (four, four, four, ("any", (one,) * 3)))
        self.assertEqual(need_formula((2,), twenty), twenty)
        self.raises(TooGreat, {"most": 20}, need_formula, (2,), ("any", (four,) * 4))
        spoilt = ("any", (one, one, one, 0))
        self.raises(TooGreat, {"most": 20}, need_formula, (2,), ("any", (four, four, four, spoilt)))
        spoilt = ("any", (one, one, 0))
        self.raises(BadFormula, {"path": (1, 3, 1, 2)}, need_formula, (2,), ("any", (four, four, four, spoilt)))
        self.raises(BadFormula, {"path": (1, 0)}, need_formula, (2,), ("any", (None,) + (four,) * 3))
        self.raises(BadFormula, {"path": (1, 3)}, need_formula, (2,), ("any", (four,) * 3 + (("any", (one,) * 5),)))

    def test_deep_ahead_of_many(self):
        three, four = ("any", (row(0, 1),) * 3), ("any", (row(0, 1),) * 4)
        # The 21st formula stands seven deep in the first value, six deep in the second one.
        self.raises(TooGreat, {"most": 6}, need_formula, (2,), ("one", (four, four, three, nested(6, row(0, 1)))))
        self.raises(TooGreat, {"most": 20}, need_formula, (2,), ("one", (four, four, four, nested(5, row(0, 1)))))
        self.raises(TooGreat, {"most": 20}, need_formula, (2,), ("one", (four, four, four, nested(6, row(0, 1)))))

    def test_wholes_ahead_of_parts_parts_from_the_left(self):
        self.raises(BadFormula, {"path": (1, 0, 1, 1)}, need_formula, (2,), (
            "one", (("any", (row(0, 1), 5)), 5)))
        self.raises(BadFormula, {"path": (1, 0)}, need_formula, (2,), ("one", (("all", (5,)), 5)))
        self.raises(BadFormula, {"path": ()}, need_formula, (2,), ("all", (5, 5)))

    def test_rows_of_these_units(self):
        self.raises(BadFormula, {"path": ()}, need_formula, (2,), row(0, 1, 0))
        self.raises(BadFormula, {"path": (1, 0)}, need_formula, (2,), ("any", (row(0),)))
        self.raises(BadFormula, {"path": ()}, need_formula, (2,), row(0, MOST + 1))
        self.raises(BadFormula, {"path": ()}, need_formula, (2,), row(0, True))

    def test_wrong(self):
        for units in ((), (2,), (2, 3)):
            rows = (0,) * (len(units) + 1)
            self.wrong_each(need_formula, ("formula",), units, ("row", rows))
            self.wrong_each(formula_stocks, ("formula",), units, ("row", rows))
            self.wrong_each(is_enough_for, ("formula", "row"), units, ("row", rows), rows)
            self.wrong_each(formula_apart, ("formula", "formula"), units, ("row", rows), ("row", rows))


class LeastRows(YardCase):
    def test_examples(self):
        one = ("one", (row(0, 3), row(1, 1), row(1, 0)))
        self.assertEqual(formula_stocks((2,), one), ((0, 3), (1, 0)))
        self.assertEqual(formula_stocks((2,), ("any", (one, row(0, 1)))), ((0, 3), (1, 0)))
        self.assertEqual(formula_stocks((2,), ("together", (one, row(0, 1)))), ((0, 4), (1, 1)))

    def test_without_parts_and_of_one_part(self):
        for units, rows in units_with_rows(4):
            zeros = (0,) * (len(units) + 1)
            self.assertEqual(formula_stocks(units, ("together", ())), (zeros,))
            self.assertEqual(formula_stocks(units, ("any", ())), (zeros,))
            self.assertEqual(formula_stocks(units, ("one", ())), ())
            for word in WORDS:
                self.assertEqual(formula_stocks(units, (word, (("one", ()),))), ())
                for one in rows:
                    self.assertEqual(formula_stocks(units, (word, (("row", one),))), (one,))
            for one in rows:
                self.assertEqual(formula_stocks(units, ("row", one)), (one,))
                self.assertEqual(formula_stocks(units, ("any", (("row", one), ("one", ())))), ())
                self.assertEqual(formula_stocks(units, ("together", (("one", ()), ("row", one)))), ())
                self.assertEqual(formula_stocks(units, ("one", (("one", ()), ("row", one)))), (one,))

    def test_by_cutting_and_parting(self):
        for units, rows in units_with_rows(6):
            stocks = rows_to(units, 8)
            known = {}
            for formula in small_formulas(units, rows):
                enough = [stock for stock in stocks if is_enough(units, formula, stock, known)]
                told = formula_stocks(units, formula)
                self.made_of_tuples(told)
                self.assertEqual([one for one in told if one in stocks], list(least_of(units, enough)))
                self.assertEqual(sorted(set(told)), list(told))
                for stock in stocks:
                    within = any(lies_within(units, one, stock) for one in told)
                    self.assertEqual(within, stock in enough)
                    self.assertIs(is_enough_for(units, formula, stock), within)

    def test_more_than_two_parts(self):
        one, other, third = row(0, 3), row(1, 0), row(0, 4)
        self.assertEqual(formula_stocks((2,), ("one", (third, one, other))), ((0, 3), (1, 0)))
        self.assertEqual(formula_stocks((2,), ("together", (one, other, third, one))), ((1, 10),))
        self.assertEqual(formula_stocks((2,), ("any", (one, other, third, one))), ((1, 2),))

    def test_great_numbers(self):
        great = row(MOST, MOST)
        self.assertEqual(formula_stocks((10,), ("together", (great,) * 4)), ((4 * MOST, 4 * MOST),))
        self.assertIs(is_enough_for((10,), great, (MOST, MOST)), True)
        self.assertIs(is_enough_for((10,), great, (MOST, MOST - 1)), False)
        self.assertIs(is_enough_for((10,), ("together", (great, row(0, 1))), (MOST, MOST)), False)
        self.assertEqual(formula_apart((10,), ("together", (great, great)), great), (MOST, MOST))

    def test_forty_and_more_in_the_whole(self):
        rows = tuple((number + 1, 3 * (39 - number)) for number in range(40))
        self.assertEqual(formula_stocks((2,), forty()), rows)
        self.raises(TooGreat, {"most": 40}, formula_stocks, (2,), forty_one())
        self.raises(TooGreat, {"most": 40}, is_enough_for, (2,), forty_one(), (0, 0))
        self.assertIs(is_enough_for((2,), forty(), (40, 0)), True)
        self.assertIs(is_enough_for((2,), forty(), (1, 116)), False)
        self.assertEqual(len(formula_stocks((2,), ("one", (forty(), row(0, 119))))), 40)
        self.raises(TooGreat, {"most": 40}, formula_stocks, (2,), ("one", (forty(), row(0, 120), row(0, 0))))
        self.assertEqual(formula_stocks((2,), ("one", (forty(), row(0, 0), row(0, 120)))), ((0, 0),))
        self.raises(TooGreat, {"most": 40}, formula_stocks, (2,), ("one", (row(0, 120), forty())))

    def test_more_than_forty_in_a_part(self):
        for whole in (("one", (forty_one(), row(0, 0))), ("one", (row(0, 0), forty_one())), ("any", (forty_one(),)),
                      ("any", (forty_one(), row(99, 0))), ("any", (row(99, 0), forty_one())),
                      ("together", (("one", ()), forty_one())), ("together", (forty_one(), ("one", ()))),
                      ("any", (("one", ()), forty_one()))):
            self.assertEqual(need_formula((2,), whole), whole)
            self.raises(TooGreat, {"most": 40}, formula_stocks, (2,), whole)
            self.raises(TooGreat, {"most": 40}, is_enough_for, (2,), whole, (99, 0))
            self.raises(BadRow, {"value": (99,)}, is_enough_for, (2,), whole, (99,))
        self.assertEqual(formula_stocks((2,), ("any", (forty(), row(99, 0)))), ((99, 0),))

    def test_together_of_more_than_forty(self):
        both = ("together", (forty_one()[1][0], ("together", forty_one()[1][1:])))
        self.raises(TooGreat, {"most": 40}, formula_stocks, (2,), both)
        self.assertEqual(len(formula_stocks((2,), ("together", forty_one()[1][1:]))), 12)


class Apart(YardCase):
    def test_by_going_through_stocks(self):
        for units, rows in units_with_rows(5):
            formulas = [*small_formulas(units, rows)]
            chance = random.Random(3)
            for _ in range(400):
                first, second = chance.choice(formulas), chance.choice(formulas)
                of_first, of_second = formula_stocks(units, first), formula_stocks(units, second)
                apart = [one for one in of_first + of_second
                         if is_enough_for_any(units, of_first, one) != is_enough_for_any(units, of_second, one)]
                if of_first == of_second:
                    self.assertEqual(apart, [])
                    self.raises(NoRow, {}, formula_apart, units, first, second)
                else:
                    self.assertEqual(formula_apart(units, first, second), min(apart))
                    self.made_of_tuples(formula_apart(units, first, second))

    def test_like_ones(self):
        one = ("one", (row(0, 3), row(1, 1), row(1, 0)))
        self.raises(NoRow, {}, formula_apart, (2,), one, ("any", (one, row(0, 1))))
        self.raises(NoRow, {}, formula_apart, (2,), ("one", ()), ("any", (("one", ()), one)))
        self.raises(NoRow, {}, formula_apart, (), ("together", (row(1), row(2))), row(3))

    def test_unlike_ones(self):
        one = ("one", (row(0, 3), row(1, 0)))
        self.assertEqual(formula_apart((2,), one, row(0, 3)), (1, 0))
        self.assertEqual(formula_apart((2,), row(0, 3), one), (1, 0))
        self.assertEqual(formula_apart((2,), one, ("one", ())), (0, 3))
        self.assertEqual(formula_apart((2,), row(0, 2), row(0, 3)), (0, 2))
        self.assertEqual(formula_apart((2,), row(1, 0), row(0, 2)), (0, 2))
        self.assertEqual(formula_apart((2,), row(0, 2), row(1, 0)), (0, 2))
        self.assertEqual(formula_apart((2,), row(1, 0), row(0, 1)), (0, 1))

    def test_parameters_ahead_of_work(self):
        self.raises(BadFormula, {"path": ()}, formula_apart, (2,), forty_one(), None)
        self.raises(TooGreat, {"most": 40}, formula_apart, (2,), forty_one(), row(0, 0))
        self.raises(TooGreat, {"most": 40}, formula_apart, (2,), row(0, 0), forty_one())
        self.raises(TooGreat, {"most": 6}, formula_apart, (2,), forty_one(), nested(7, None))


def is_enough_for_any(units, least, stock):
    return any(serves(units, stock, one) for one in least)


class ForAllUnits(YardCase):
    def test_one_row_is_served(self):
        for units in SMALL_UNITS:
            rows = rows_to(units, 7)
            for order, stock in product_of(rows, rows):
                self.assertIs(is_enough_for(units, ("row", order), stock), serves(units, stock, order))


if __name__ == "__main__":
    unittest.main()
