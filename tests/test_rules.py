"""Rules, what they take, and their flaws: point 25."""

import itertools
import random
import unittest

from stairyard.asking import served_in_turn
from stairyard.errors import BadRows, BadRule, BadUnit, NoRow, TooGreat
from stairyard.rules import best_rule, is_rule_flaw, need_rule, rule_flaw, ruled, taken_by
from tests.tools import (
    PAPERS, SMALL_UNITS, YardCase, add, cut_from, has_all, product_of, rows_to, serves, size_of, spoilt, swapped,
    take, units_with_rows)
from tests.wrongs import zero_row

MOST = 10 ** 60
# Opens large pieces for small ones first.
LARGE_FIRST = (((0, 0),), ((0, 1), (1, 1)))
# Cuts large pieces wholly into small ones.
WHOLLY = (((0, 0),), ((1, 1), (0, 1)), ((2, 2), (1, 2), (0, 2)))


def pairs_of(unit):
    """All pairs of things that a rule may tell for a unit."""
    for order in itertools.permutations(range(unit + 1)):
        for cuts in itertools.product(*[range(min(j + 1, unit), unit + 1) for j in order]):
            yield tuple(zip(order, cuts))


def all_rules(units):
    return list(itertools.product(*[list(pairs_of(unit)) for unit in range(len(units) + 1)]))


def one_piece(units, unit):
    return swapped(zero_row(units), unit, 1)


def plain_piece(units, rule, row, unit):
    """What is left behind a piece of a unit, each piece cut by itself; None if there is none."""
    for j, m in rule[unit]:
        if row[j] > 0:
            row = take(row, one_piece(units, j))
            if j == unit:
                return row
            pieces = [m] * (size_of(units, j) // size_of(units, m))
            for k in range(m, unit):
                pieces.remove(k)
                pieces += [k + 1] * units[k]
            pieces.remove(unit)
            return tuple(row[k] + pieces.count(k) for k in range(len(row)))
    return None


def plain_ruled(units, rule, stock, asks):
    for count, ask in enumerate(asks):
        row = stock
        for unit, many in enumerate(ask):
            for _ in range(many):
                row = None if row is None else plain_piece(units, rule, row, unit)
        if row is None:
            return count, stock
        stock = row
    return len(asks), stock


def is_plain_flaw(units, rule, stock, first, second):
    return serves(units, stock, add(first, second)) and plain_ruled(units, rule, stock, (first, second))[0] < 2


class NeedRule(YardCase):
    def test_all_rules(self):
        for units in ((), (2,), (2, 3), (2, 2, 2)):
            rules = all_rules(units)
            self.assertEqual(len(rules), (1, 2, 24, 3456)[len(units)])
            for rule in rules[::7]:
                self.assertEqual(need_rule(units, rule), rule)
                self.made_of_tuples(need_rule(units, rule))
            self.assertIn(best_rule(units), rules)

    def test_first_wrong_place(self):
        self.raises(BadRule, {"place": (1, 0)}, need_rule, (2, 3), (((0, 0),), ((0, 0), (5, 5)), None))
        self.raises(BadRule, {"place": (1,)}, need_rule, (2, 3), (((0, 0),), None, (None,)))
        self.raises(BadRule, {"place": (0, 0)}, need_rule, (2, 3), (((0, 1),), None, None))
        self.raises(BadRule, {"place": (1, 1)}, need_rule, (2,), (((0, 0),), ((1, 1), (1, 1))))
        self.raises(BadRule, {"place": (2, 1)}, need_rule, (2, 3), (((0, 0),), ((1, 1), (0, 1)), ((1, 2), (1, 2), 5)))
        self.raises(BadRule, {"place": (1, 0)}, need_rule, (2,), (((0, 0),), ((True, 1), (0, 1))))
        self.raises(BadRule, {"place": (1, 0)}, need_rule, (2,), (((0, 0),), ((1, True), (0, 1))))
        self.raises(BadRule, {"place": (0, 0)}, need_rule, (2,), (((False, 0),), ((1, 1), (0, 1))))

    def test_wrong(self):
        for units in ((), (2,), (2, 3)):
            row = zero_row(units)
            rule = best_rule(units)
            self.wrong_each(need_rule, ("rule",), units, rule)
            self.wrong_each(taken_by, ("rule", "row", "unit"), units, rule, row, 0)
            self.wrong_each(ruled, ("rule", "row", "rows"), units, rule, row, ((1001,) * len(row),))
            self.wrong_each(rule_flaw, ("rule",), units, rule)
            self.wrong_each(is_rule_flaw, ("rule", None), units, rule, None)
            self.wrong_each(best_rule, (), units)


class BestRule(YardCase):
    def test_small_ones(self):
        self.assertEqual(best_rule(()), (((0, 0),),))
        self.assertEqual(best_rule((2,)), (((0, 0),), ((1, 1), (0, 1))))
        self.assertEqual(best_rule((2, 3)), (((0, 0),), ((1, 1), (0, 1)), ((2, 2), (1, 2), (0, 1))))
        self.assertEqual(best_rule((9, 9, 9))[3], ((3, 3), (2, 3), (1, 2), (0, 1)))

    def test_tells_what_is_served_in_turn(self):
        for units, rows in units_with_rows(5):
            rule = best_rule(units)
            for stock in rows_to(units, 9)[::2]:
                for asks in product_of(rows[1:6], rows[-4:], rows[1:3]):
                    told = ruled(units, rule, stock, asks)
                    self.made_of_tuples(told)
                    self.assertEqual(told, served_in_turn(units, stock, asks))


class Taken(YardCase):
    def test_piece_by_piece(self):
        for units in SMALL_UNITS:
            rules = all_rules(units)
            for rule in rules[::1 + len(rules) // 40]:
                for row, unit in product_of(rows_to(units, 13)[::3], range(len(units) + 1)):
                    left = plain_piece(units, rule, row, unit)
                    if left is None:
                        self.assertEqual(sum(row[:unit + 1]), 0)
                        self.raises(NoRow, {}, taken_by, units, rule, row, unit)
                    else:
                        told = taken_by(units, rule, row, unit)
                        self.assertEqual(told, left)
                        self.made_of_tuples(told)
                        self.assertIn(add(told, one_piece(units, unit)), cut_from(units, row))

    def test_one_piece_after_the_other(self):
        self.assertEqual(taken_by((2, 3), WHOLLY, (1, 0, 0), 2), (0, 0, 5))
        self.assertEqual(taken_by((2, 3), best_rule((2, 3)), (1, 0, 0), 2), (0, 1, 2))
        self.assertEqual(taken_by((2, 3), best_rule((2, 3)), (1, 1, 0), 2), (1, 0, 2))
        self.assertEqual(taken_by((2, 3), best_rule((2, 3)), (1, 1, 1), 2), (1, 1, 0))
        self.assertEqual(taken_by((2, 3), best_rule((2, 3)), (1, 1, 1), 0), (0, 1, 1))
        self.assertEqual(taken_by((9, 9, 9), best_rule((9, 9, 9)), (1, 0, 0, 0), 3), (0, 8, 8, 8))
        third = (*best_rule((9, 9)), ((0, 2), (1, 3), (2, 3), (3, 3)))
        self.assertEqual(taken_by((9, 9, 9), third, (1, 1, 1, 1), 3), (0, 1, 81, 9))

    def test_great_numbers(self):
        self.assertEqual(taken_by((10, 10), WHOLLY, (MOST, 0, 0), 2), (MOST - 1, 0, 99))
        self.assertEqual(taken_by((10,), LARGE_FIRST, (MOST, MOST), 1), (MOST - 1, MOST + 9))
        self.assertEqual(ruled((10,), LARGE_FIRST, (MOST, MOST), ((0, 1), (1, 0))), (2, (MOST - 2, MOST + 9)))
        self.assertEqual(ruled((), best_rule(()), (MOST,), ((1,), (2,))), (2, (MOST - 3,)))

    def test_no_piece(self):
        for rule in all_rules((2, 3)):
            self.raises(NoRow, {}, taken_by, (2, 3), rule, (0, 0, 9), 1)
            self.raises(NoRow, {}, taken_by, (2, 3), rule, (0, 5, 9), 0)
            self.raises(NoRow, {}, taken_by, (2, 3), rule, (0, 0, 0), 2)
            self.raises(BadUnit, {"value": 3}, taken_by, (2, 3), rule, (0, 0, 0), 3)


class Ruled(YardCase):
    def test_by_single_pieces(self):
        for units in SMALL_UNITS:
            rules = all_rules(units)
            rows = rows_to(units, 5)
            for rule in rules[::1 + len(rules) // 12]:
                for stock in rows_to(units, 9)[::4]:
                    for asks in product_of(rows[1:4], rows[-3:], rows[1:4:2]):
                        told = ruled(units, rule, stock, asks)
                        self.assertEqual(told, plain_ruled(units, rule, stock, asks))
                        # A rule takes no ask that the stock does not serve.
                        self.assertLessEqual(told[0], served_in_turn(units, stock, asks)[0])

    def test_example(self):
        self.assertEqual(ruled((2,), LARGE_FIRST, (1, 1), ((0, 1), (1, 0))), (1, (0, 2)))
        self.assertEqual(ruled((2,), best_rule((2,)), (1, 1), ((0, 1), (1, 0))), (2, (0, 0)))

    def test_greater_units_first(self):
        self.assertEqual(ruled((2,), LARGE_FIRST, (1, 1), ((1, 1),)), (1, (0, 0)))
        self.assertEqual(ruled((2,), LARGE_FIRST, (1, 0), ((0, 0), (1, 0), (0, 0), (0, 1), (0, 0))), (3, (0, 0)))
        # Pieces that were taken for an ask that is not taken whole are there again.
        self.assertEqual(ruled((2,), LARGE_FIRST, (1, 1), ((0, 4), (0, 1))), (0, (1, 1)))
        self.assertEqual(ruled((2,), LARGE_FIRST, (2, 1), ((0, 1), (1, 3), (0, 1))), (1, (1, 2)))

    def test_no_asks_and_sixty(self):
        for units, rows in units_with_rows(6):
            for row in (*rows, (MOST,) * (len(units) + 1)):
                self.assertEqual(ruled(units, best_rule(units), row, ()), (0, row))
        self.assertEqual(ruled((2,), best_rule((2,)), (30, 0), ((0, 1),) * 60), (60, (0, 0)))
        self.assertEqual(ruled((2,), best_rule((2,)), (29, 1), ((0, 1),) * 60), (59, (0, 0)))
        self.raises(BadRows, {"place": ()}, ruled, (2,), best_rule((2,)), (30, 0), ((0, 1),) * 61)

    def test_a_thousand_pieces_and_one_more(self):
        rule = best_rule((2,))
        self.assertEqual(ruled((2,), rule, (500, 0), ((0, 1000),)), (1, (0, 0)))
        self.assertEqual(ruled((2,), rule, (500, 1), ((1, 500), (0, 498), (0, 1))), (3, (0, 0)))
        self.assertEqual(ruled((2,), rule, (MOST, 0), ((400, 600),)), (1, (MOST - 700, 0)))
        self.assertEqual(ruled((2,), rule, (0, 0), ((0, 1000),)), (0, (0, 0)))
        for asks in (((0, 1001),), ((1001, 0),), ((1, 500), (0, 500)), ((1, 0), (0, MOST)), ((0, 1000), (1, 0))):
            self.raises(TooGreat, {"most": 1000}, ruled, (2,), rule, (0, 0), asks)
        self.raises(BadRows, {"place": (1,)}, ruled, (2,), rule, (0, 0), ((0, 1001), (0,)))


class Flaws(YardCase):
    def test_each_other_rule_has_one(self):
        for units in ((), (2,), (3,), (10,), (2, 3), (3, 2), (2, 2, 2), (2, 3, 10)):
            for rule in all_rules(units):
                if rule == best_rule(units):
                    self.raises(NoRow, {}, rule_flaw, units, rule)
                    continue
                flaw = rule_flaw(units, rule)
                self.assertEqual([type(flaw), len(flaw)], [tuple, 3])
                self.made_of_tuples(flaw)
                self.assertLessEqual(sum(flaw[0]), 2)
                self.assertEqual([sum(flaw[1]), sum(flaw[2])], [1, 1])
                self.assertTrue(is_plain_flaw(units, rule, *flaw))
                self.assertIs(is_rule_flaw(units, rule, flaw), True)
                self.assertIs(is_rule_flaw(units, best_rule(units), flaw), False)

    def test_rules_that_differ_from_the_best_one_at_one_unit(self):
        for units in ((2,), (2, 3), (2, 2, 2)):
            best = best_rule(units)
            for unit in range(len(units) + 1):
                for pairs in pairs_of(unit):
                    rule = swapped(best, unit, pairs)
                    if rule != best:
                        self.assertTrue(is_plain_flaw(units, rule, *rule_flaw(units, rule)))
                    # Asks of other units are taken as by the best rule.
                    for other in range(len(units) + 1):
                        if other != unit:
                            self.assertEqual(taken_by(units, rule, (2,) * len(best), other),
                                             taken_by(units, best, (2,) * len(best), other))

    def test_by_all_small_rows(self):
        for units in ((), (2,), (2, 2)):
            rows = rows_to(units, 4)
            for rule in all_rules(units)[::3]:
                for flaw in product_of(rows_to(units, 6), rows, rows):
                    self.assertIs(is_rule_flaw(units, rule, flaw), is_plain_flaw(units, rule, *flaw))

    def test_examples(self):
        self.assertIs(is_rule_flaw((2,), LARGE_FIRST, ((1, 1), (0, 1), (1, 0))), True)
        self.assertIs(is_rule_flaw((2, 3), WHOLLY, ((1, 0, 0), (0, 0, 1), (0, 1, 0))), True)
        # Not served by the stock; taken by the rule.
        self.assertIs(is_rule_flaw((2,), LARGE_FIRST, ((1, 0), (0, 1), (1, 0))), False)
        self.assertIs(is_rule_flaw((2,), LARGE_FIRST, ((1, 1), (1, 0), (0, 1))), False)
        self.assertIs(is_rule_flaw((2,), LARGE_FIRST, ((1, 1), (0, 1), (0, 1))), False)

    def test_a_thousand_pieces_and_one_more(self):
        for many, told in ((999, True), (1000, False)):
            self.assertIs(is_rule_flaw((2,), LARGE_FIRST, ((1, many), (0, many), (1, 0))), told)
        self.assertIs(is_rule_flaw((2,), LARGE_FIRST, ((500, 500), (0, 500), (500, 0))), True)
        self.assertIs(is_rule_flaw((2,), LARGE_FIRST, ((501, 500), (0, 500), (501, 0))), False)
        self.assertIs(is_rule_flaw((2,), LARGE_FIRST, ((501, 500), (0, 500), (500, 0))), True)
        self.assertIs(is_rule_flaw((2,), LARGE_FIRST, ((MOST, MOST), (0, MOST), (MOST, 0))), False)

    def test_values_of_every_kind(self):
        flaw = ((1, 1), (0, 1), (1, 0))
        self.judges(is_rule_flaw, flaw, (2,), LARGE_FIRST)
        for value in (flaw[:2], flaw + ((0, 0),), ((1, 1, 0),) * 3, ((MOST + 1, 1), (0, 1), (1, 0)), ((0, 0),) * 3):
            self.assertIs(is_rule_flaw((2,), LARGE_FIRST, value), False)
        for value in (*PAPERS, *spoilt(flaw)):
            self.assertIs(is_rule_flaw((2,), best_rule((2,)), value), False)


class ForAllStocksAndAsks(YardCase):
    def test_asks_at_random(self):
        chance = random.Random(5)
        for units in ((2,), (3, 2), (2, 2, 3)):
            rules = all_rules(units)
            for _ in range(300):
                rule = chance.choice(rules)
                stock = tuple(chance.randrange(9) for _ in range(len(units) + 1))
                asks = tuple(tuple(chance.randrange(4) for _ in stock) for _ in range(6))
                told = ruled(units, rule, stock, asks)
                self.assertEqual(told, plain_ruled(units, rule, stock, asks))
                self.assertEqual(ruled(units, best_rule(units), stock, asks), served_in_turn(units, stock, asks))
                self.assertTrue(has_all(told[1], zero_row(units)))


if __name__ == "__main__":
    unittest.main()
