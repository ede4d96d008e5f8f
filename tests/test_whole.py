"""One row through all parts of the program: they tell one and the same of it."""

import importlib
import inspect
import unittest

from stairyard import errors
from stairyard.asking import served_in_turn, taken_back
from stairyard.cutting import cut_plan, is_cut_plan
from stairyard.draws import draw_of, draw_rows
from stairyard.errors import NoRow, Unlike, YardError
from stairyard.formulas import formula_stocks, is_enough_for
from stairyard.house import House
from stairyard.joining import fewest_left, joins_of, latest_more
from stairyard.orders import greatest_common, least_for
from stairyard.payments import can_pay
from stairyard.pieces import greatest_lot, is_laying, laying
from stairyard.plans import lives, plan_lacks, plan_stocks, still_asked
from stairyard.plays import play_against
from stairyard.rows import full_unit, is_within, row_of, stair_of, total
from stairyard.rules import best_rule, ruled
from stairyard.sides import SIDES, is_side, side_of, side_row, side_turned
from stairyard.spares import least_added, spare
from stairyard.stairs import down, lack, rest, up
from stairyard.texts import read_row, row_text
from stairyard.wheel import free_between, free_turns, wheel_of, wheel_row
from stairyard.words import first_words, free_words, words_behind, words_row
from stairyard.worlds import left_behind, outlives, world_needs
from stairyard.worths import best_worth
from stairyard.yards import is_served, needs
from tests.test_interface import CLASSES, TOLD
from tests.tools import SMALL_UNITS, YardCase, add, rows_to, serves, size_of, take
from tests.wrongs import END, zero_row


def one_piece(units):
    return (1,) + (0,) * len(units)


def raised(function, *args):
    """The error that a call raises, None if it returns."""
    try:
        function(*args)
    except YardError as error:
        return error
    return None


class OneRow(YardCase):
    def test_served_or_not(self):
        """All parts tell alike whether a stock serves a row, and at which unit it does not."""
        for units in SMALL_UNITS:
            rows = rows_to(units, 7)
            for stock in rows[::3]:
                for row in rows[::2]:
                    with self.subTest(units=units, stock=stock, row=row):
                        self.check_served(units, stock, row, serves(units, stock, row))

    def check_served(self, units, stock, row, good):
        none = zero_row(units)
        world = (2, ((0, ("ask", row), 1),))
        self.assertIs(is_within(units, row, stock), good)
        self.assertIs(is_served(units, (stock, row, ())), good)
        self.assertIs(is_served(units, (stock, none, ((none, row, ()),))), good)
        self.assertIs(lives(units, ("ask", row, END), stock), good)
        self.assertIs(outlives(units, world, stock), good)
        self.assertIs(is_enough_for(units, ("row", row), stock), good)
        self.assertEqual(served_in_turn(units, stock, (row,))[0], int(good))
        self.assertEqual(ruled(units, best_rule(units), stock, (row,))[0], int(good))
        self.assertIs(greatest_lot(units, stock, row) == row, good)
        self.assertIs(raised(House, units, (stock, row, ())) is None, good)
        self.assertIs(raised(House(units, (stock, none, ())).do, ("ask", (), row)) is None, good)
        self.assertIs(raised(left_behind, units, world, stock, (0,)) is None, good)
        self.assertIs(raised(play_against, units, ("ask", row, END), stock) is None, not good)
        self.assertIs(least_for(units, (row, stock)) == stock, good)
        self.assertIs(greatest_common(units, (row, stock)) == row, good)
        pieces = tuple((unit, 1) for unit, many in enumerate(row) for _ in range(many))
        self.assertIs(best_worth(units, stock, pieces) == len(pieces), good)
        if good:
            self.assertIs(is_laying(units, stock, row, laying(units, stock, row)), True)
            self.assertIs(is_cut_plan(units, stock, row, cut_plan(units, stock, row)), True)
        else:
            unit = full_unit(units, row, stock)
            for function in (laying, cut_plan):
                self.assertEqual(raised(function, units, stock, row).value, unit)
            self.assertEqual(raised(taken_back, units, stock, row).value, unit)

    def test_what_is_lacking_and_what_is_left(self):
        """All parts tell alike what a stock lacks for a row, and what it has left behind it."""
        for units in SMALL_UNITS:
            rows = rows_to(units, 7)
            for stock in rows[::3]:
                for row in rows[::2]:
                    with self.subTest(units=units, stock=stock, row=row):
                        self.check_lack(units, stock, row)
                        if is_within(units, row, stock):
                            self.check_rest(units, stock, row)

    def check_lack(self, units, stock, row):
        none = zero_row(units)
        lacking = lack(units, row, stock)
        tree = (stock, row, ())
        difference = take(stair_of(units, row), stair_of(units, stock))
        self.assertEqual(row_of(units, up(units, difference)), lacking)
        self.assertEqual(needs(units, tree), (lacking,))
        self.assertEqual(least_added(units, tree, ()), lacking)
        self.assertEqual(plan_lacks(units, ("ask", row, END), stock), (lacking,))
        self.assertEqual(plan_stocks(units, ("bring", stock, ("ask", row, END))), (lacking,))
        self.assertEqual(world_needs(units, (3, ((0, ("bring", stock), 1), (1, ("ask", row), 2))))[0], lacking)
        self.assertEqual(formula_stocks(units, ("row", row)), (row,))
        self.assertEqual(take(row, greatest_lot(units, stock, row)), lacking)
        house = House(units, (stock, none, ()))
        if any(lacking):
            self.assertEqual(raised(House, units, tree).value, lacking)
            self.assertEqual(raised(house.do, ("ask", (), row)).value, lacking)
            house.do(("bring", (), lacking))
        house.do(("ask", (), row))
        self.assertEqual(house.needs(), (none,))

    def check_rest(self, units, stock, row):
        none = zero_row(units)
        left = rest(units, stock, row)
        self.assertEqual(row_of(units, down(units, take(stair_of(units, stock), stair_of(units, row)))), left)
        self.assertEqual(spare(units, (stock, row, ()), ()), left)
        self.assertEqual(House(units, (stock, row, ())).spare(()), left)
        self.assertEqual(spare(units, (stock, none, ((none, row, ()),)), (2, 0)), left)
        self.assertEqual(still_asked(units, ("ask", row, END), stock), (left,))
        self.assertEqual(left_behind(units, (2, ((0, ("ask", row), 1),)), stock, (0,)), (1, left))
        self.assertEqual(served_in_turn(units, stock, (row,)), (1, left))
        self.assertEqual(ruled(units, best_rule(units), stock, (row,)), (1, left))
        self.assertEqual(taken_back(units, stock, row), add(row, left))
        self.assertTrue(is_within(units, add(row, left), stock))

    def test_one_piece(self):
        """All parts tell alike whether one piece of the unit 0 serves a row."""
        for units in SMALL_UNITS:
            one = one_piece(units)
            for row in rows_to(units, size_of(units, 0) + 2):
                good = serves(units, one, row)
                with self.subTest(units=units, row=row):
                    self.assertIs(total(units, row) <= size_of(units, 0), good)
                    self.assertIs(fewest_left(units, row)[0] <= 1, good)
                    functions = [first_words, wheel_of, latest_more] + ([joins_of] if any(row) else [])
                    for function in functions:
                        error = raised(function, units, row)
                        if good:
                            self.assertIn(error.__class__, (None.__class__, NoRow))
                        else:
                            self.assertEqual((error.__class__, error.value), (Unlike, full_unit(units, row, one)))
                    self.assertIs(raised(draw_of, units, (row,)) is None, good)
                    for side in SIDES:
                        self.assertIs(raised(side_of, units, row, side) is None, good)
                    self.assertIs(outlives(units, ring_of_row(units, row), one), good)
                    self.assertIs(is_side(units, "world", ring_of_row(units, row)), good)
                    self.assertIs(is_side(units, "plan", ("ask", row, END)), good)
                    self.assertIs(is_side(units, "yard", (one, row, ())), good)
                    if good:
                        self.check_fitting(units, row)

    def check_fitting(self, units, row):
        one = one_piece(units)
        over = rest(units, one, row)
        words = first_words(units, row)
        wheel = wheel_of(units, row)
        self.assertEqual((words_row(units, words), wheel_row(units, wheel)), (row, row))
        # Free words and turns, scattered or not, make what is left over; here their rows are the rest itself.
        for free in (words_row(units, free_words(units, words)), wheel_row(units, free_turns(units, wheel))):
            self.assertEqual(total(units, free), total(units, over))
        self.assertEqual(words_row(units, free_words(units, words)), over)
        self.assertEqual(words_row(units, words_behind(units, words, over)), over)
        self.assertEqual(free_between(units, wheel, 0, size_of(units, 0)), total(units, over))
        rows, nothing = draw_rows(units, draw_of(units, (row,)))
        self.assertEqual((rows or (zero_row(units),), nothing), ((row,), over))
        self.assertIs(can_pay(units, one, zero_row(units), total(units, over)), total(units, over) in (0, size_of(units, 0)))
        self.assertEqual(read_row(units, row_text(units, row)), row)
        for side in SIDES:
            value = side_of(units, row, side)
            self.assertEqual(side_row(units, side, value), row)
            for into in SIDES:
                self.assertEqual(side_row(units, into, side_turned(units, side, value, into)), row)
        house = House(units, side_of(units, row, "yard"))
        self.assertEqual(house.spare(()), over)


def ring_of_row(units, row):
    return (2, ((0, ("ask", row), 1), (1, ("bring", one_piece(units)), 0)))


class AllFunctions(YardCase):
    def test_units_come_ahead_of_all_else(self):
        """Each function with units raises BadUnits for wrong ones, whatever its other parameters are."""
        for name, told in TOLD.items():
            module = importlib.import_module("stairyard." + name)
            for text in told:
                function = getattr(module, text.partition("(")[0])
                names = list(inspect.signature(function).parameters)
                if names[0] == "units":
                    for units in (None, [2], (1,), (11,), (2, 2, 2, 2), (True,), "2", 2):
                        self.raises(errors.BadUnits, {"value": units}, function, units, *[None] * (len(names) - 1))

    def test_parameters_by_name(self):
        self.assertEqual(rest(units=(2,), stock=(1, 0), order=(0, 1)), (0, 1))
        self.assertEqual(side_turned(units=(), side="words", value=((),), into="texts"), ("",))
        self.assertEqual(House(tree=((1,), (0,), ()), units=()).spare(path=()), (1,))
        self.assertEqual(len(CLASSES), 2)

    def test_no_function_takes_true_for_one(self):
        for function, args in ((stair_of, ((2,), (True, 0))), (is_within, ((2,), (0, 1), (True, 1))),
                               (side_of, ((2,), (False, 1), "words")), (first_words, ((2,), (0, True))),
                               (wheel_of, ((2,), (0, True))), (joins_of, ((2,), (True, 0)))):
            self.assertEqual(raised(function, *args).__class__, errors.BadRow)


if __name__ == "__main__":
    unittest.main()
