"""Payments between two purses, amounts that cannot be paid and why: points 68 and 69."""

import itertools
import unittest

from stairyard.errors import BadParameter, NoRow
from stairyard.payments import blocked_unit, can_pay, first_unpaid, is_payment, next_paid, payment
from tests.tools import PAPERS, STRAY, WRONG, Alike, YardCase, rows_to, size_of, total_of
from tests.wrongs import zero_row

FAR = 10 ** 60


def wrong_amounts(units):
    for value in (*STRAY, FAR + 1, -FAR - 1, Alike(), (), (0,), "0"):
        if value.__class__ is not int or abs(value) > FAR:
            yield value, BadParameter, {"value": value}


WRONG["amount"] = wrong_amounts


def lots(row):
    """All rows with at each unit at most as many pieces."""
    return list(itertools.product(*[range(many + 1) for many in row]))


def payable(units, one, other):
    """All amounts that can be paid, by all lots of both purses."""
    given = {total_of(units, lot) for lot in lots(one)}
    back = {total_of(units, lot) for lot in lots(other)}
    return {amount - less for amount in given for less in back}


def plain_blocked(units, one, other, amount):
    """The greatest unit at which no multiple lies where it should, all multiples being looked at."""
    def made(row, unit):
        return sum(row[k] * size_of(units, k) for k in range(unit, len(row)))
    for unit in range(len(units), 0, -1):
        size = size_of(units, unit - 1)
        low, high = amount - made(one, unit), amount + made(other, unit)
        if not any(number % size == 0 for number in range(low, high + 1)):
            return unit
    return None if -made(other, 0) <= amount <= made(one, 0) else 0


def purses(units):
    rows = rows_to(units, 7 if len(units) < 3 else 9)
    return itertools.product(rows[::2 if len(rows) < 40 else 5], rows[::3 if len(rows) < 40 else 7])


ALL_UNITS = ((), (2,), (3,), (2, 3), (3, 2), (2, 2, 2))


class Payments(YardCase):
    def test_example(self):
        told = ((2, 3), (1, 0, 1), (0, 0, 2))
        good = [amount for amount in range(-20, 20) if can_pay(*told, amount)]
        self.assertEqual(good, [-2, -1, 0, 1, 4, 5, 6, 7])
        self.assertEqual(blocked_unit(*told, 3), 1)
        self.assertEqual(first_unpaid(*told), 2)
        self.assertEqual(next_paid(*told, 2), 4)
        self.judges(is_payment, payment(*told, 5), *told, 5)

    def test_all_lots(self):
        for units in ALL_UNITS:
            for one, other in purses(units):
                amounts = payable(units, one, other)
                most, least = total_of(units, one), -total_of(units, other)
                with self.subTest(units=units, one=one, other=other):
                    for amount in range(least - 3, most + 4):
                        self.check_amount(units, one, other, amount, amount in amounts)
                    unpaid = [amount for amount in range(most + 1) if amount not in amounts]
                    if unpaid:
                        self.assertEqual(first_unpaid(units, one, other), unpaid[0])
                    else:
                        self.raises(NoRow, {}, first_unpaid, units, one, other)
                    for amount in range(least - 3, most + 3):
                        later = [other for other in amounts if other >= amount]
                        if later:
                            self.assertEqual(next_paid(units, one, other, amount), min(later))
                        else:
                            self.raises(NoRow, {}, next_paid, units, one, other, amount)

    def check_amount(self, units, one, other, amount, good):
        self.assertIs(can_pay(units, one, other, amount), good)
        if good:
            paid = payment(units, one, other, amount)
            self.made_of_tuples(paid)
            self.assertIs(is_payment(units, one, other, amount, paid), True)
            self.assertEqual(total_of(units, paid[0]) - total_of(units, paid[1]), amount)
            self.raises(NoRow, {}, blocked_unit, units, one, other, amount)
        else:
            self.raises(NoRow, {}, payment, units, one, other, amount)
            self.assertEqual(blocked_unit(units, one, other, amount), plain_blocked(units, one, other, amount))

    def test_facts(self):
        for units in ALL_UNITS:
            for one, other in list(purses(units))[::3]:
                amounts = payable(units, one, other)
                whole = total_of(units, one) - total_of(units, other)
                for amount in range(-total_of(units, other) - 1, total_of(units, one) + 2):
                    good = amount in amounts
                    self.assertIs(can_pay(units, other, one, -amount), good)
                    self.assertIs(can_pay(units, one, other, whole - amount), good)
                    if good:
                        for unit in range(len(one)):
                            more = one[:unit] + (one[unit] + 1,) + one[unit + 1:]
                            self.assertTrue(can_pay(units, more, other, amount))
                            self.assertTrue(can_pay(units, one, more, amount) or not can_pay(units, one, other, amount)
                                            or more != other)

    def test_judged(self):
        for units in ((), (2,), (2, 3)):
            for one, other in list(purses(units))[::2]:
                for amount in (-2, 0, 1, 3):
                    for given, back in itertools.product(rows_to(units, 3), repeat=2):
                        good = given in lots(one) and back in lots(other)
                        good = good and total_of(units, given) - total_of(units, back) == amount
                        self.assertIs(is_payment(units, one, other, amount, (given, back)), good)
                    for value in PAPERS:
                        self.assertIs(is_payment(units, one, other, amount, value), False)
        self.assertIs(is_payment((2,), (1, 0), (0, 1), 1, ((1, 0), (0, 1))), True)
        self.assertIs(is_payment((2,), (1, 0), (0, 1), 1, ((0, 1), (0, 0))), False)
        self.assertIs(is_payment((2,), (1, 0), (0, 1), 2, ((0, 2), (0, 0))), False)
        self.assertIs(is_payment((2,), (1, 0), (0, 1), 1, ((1, 0), (0, 1), (0, 0))), False)
        self.assertIs(is_payment((2,), (1, 2), (0, 1), 0, ((1, 0), (0, 2))), False)

    def test_far_amounts(self):
        units = (10, 10, 10)
        whole = (FAR,) * 4
        none = zero_row(units)
        most = 1111 * FAR
        self.assertTrue(can_pay(units, whole, none, FAR))
        self.assertTrue(can_pay(units, none, whole, -FAR))
        self.assertFalse(can_pay(units, none, whole, 1))
        self.assertFalse(can_pay(units, whole, none, -1))
        self.assertEqual(blocked_unit(units, none, whole, FAR), 0)
        self.assertEqual(blocked_unit(units, (FAR, 0, 0, 0), none, FAR - 1), 3)
        self.raises(NoRow, {}, first_unpaid, units, whole, whole)
        # The lesser pieces make 111 times 10 ** 60, and nothing that is not less than a piece of the unit 0 is lacking.
        self.raises(NoRow, {}, first_unpaid, units, whole, none)
        self.assertEqual(first_unpaid(units, (FAR, 0, 0, FAR - FAR // 10 * 10 + 9), none), 10)
        few = (FAR, 9, 9, 8)
        self.assertEqual(first_unpaid(units, few, none), 9)
        self.assertEqual(next_paid(units, few, none, 9), 10)
        self.assertEqual(next_paid(units, few, none, 999), 1000)
        self.assertEqual(next_paid(units, (FAR, 0, 0, 0), none, FAR - 999), FAR)
        self.assertEqual(next_paid(units, (FAR, 0, 0, 0), none, 1), 1000)
        self.raises(NoRow, {}, next_paid, units, (1, 0, 0, 0), none, 1001)
        self.assertEqual(next_paid(units, (1, 0, 0, 0), none, 1000), 1000)
        self.assertEqual(next_paid(units, none, (0, 0, 0, 5), -FAR), -5)
        self.assertEqual(next_paid(units, none, (FAR, 0, 0, 0), -FAR), -FAR)
        # Amounts beyond 10 ** 60 are told, if they are the next ones.
        self.assertEqual(next_paid((7,), (FAR, 0), (0, 0), FAR), -(-FAR // 7) * 7)
        self.assertGreater(next_paid((7,), (FAR, 0), (0, 0), FAR), FAR)
        great = ((2,), (1, 10 ** 60), (0, 0))
        self.raises(NoRow, {}, first_unpaid, *great)
        self.assertEqual(payment((2,), (FAR, 0), (0, 1), 2 * (FAR // 2) - 1)[1], (0, 1))
        self.assertEqual(total_of(units, payment(units, whole, none, FAR)[0]), FAR)
        self.assertFalse(can_pay((3, 3), (FAR, 0, 1), (0, 0, 0), 3))
        self.assertEqual(most, total_of(units, whole))

    def test_first_unpaid_beyond_the_bound(self):
        # 10 ** 60 small pieces and two large ones of 8: all amounts up to these are paid, and those beyond too.
        self.raises(NoRow, {}, first_unpaid, (8,), (2, FAR), (0, 0))
        self.assertEqual(first_unpaid((8,), (2, 6), (0, 0)), 7)
        self.raises(NoRow, {}, first_unpaid, (8,), (2, 6), (0, 1))
        self.raises(NoRow, {}, first_unpaid, (8,), (0, 6), (0, 0))
        self.raises(NoRow, {}, first_unpaid, (), (5,), (0,))
        # Middle pieces make 10 ** 60 times 2, which is even: the odd ones are not paid.
        self.assertEqual(first_unpaid((2, 2), (1, FAR, 0), (0, 0, 0)), 1)

    def test_wrong(self):
        for units in ((), (2,), (2, 3)):
            row = zero_row(units)
            for function in (can_pay, payment, next_paid):
                self.wrong_each(function, ("row", "row", "amount"), units, row, row, 1)
            self.wrong_each(blocked_unit, ("row", "row", "amount"), units, row, row, 0)
            self.wrong_each(is_payment, ("row", "row", "amount", None), units, row, row, 1, None)
            self.wrong_each(first_unpaid, ("row", "row"), units, row, row)


if __name__ == "__main__":
    unittest.main()
