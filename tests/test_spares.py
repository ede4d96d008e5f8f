"""Allowed rows, spares, and more stock at one yard: points 30 and 31."""

import unittest

from stairyard.errors import BadIndex, NoRow, TooGreat, Unlike
from stairyard.spares import allowed, least_added, spare
from stairyard.yards import is_sending, is_served, needs
from tests.tools import SMALL_UNITS, YardCase, add, least_of, lies_within, rows_to, swapped
from tests.trees import (
    SHAPES, chain_of, is_plain_sending, is_plainly_served, line_of, paths_of, small_sendings, trees_for, with_asks,
    with_stock)
from tests.wrongs import sample_tree, tree_line, zero_row

MOST = 10 ** 60
EXAMPLE = ((0, 1), (0, 0), (((1, 0), (0, 3), ()),))
UNSERVED = ((0, 1), (0, 0), (((1, 0), (0, 4), ()),))


def served_trees(units, many, seed, shapes=SHAPES):
    return [tree for tree in trees_for(units, many, seed, shapes) if is_plainly_served(units, tree)]


class Allowed(YardCase):
    def test_small_ones(self):
        self.assertEqual(allowed((2,), EXAMPLE), ((0, 0), (0, 1)))
        tree = ((2, 0), (0, 1), (((0, 0), (0, 1), ()), ((0, 0), (0, 1), (((0, 0), (0, 0), ()),))))
        # One large piece and one small one are left for both yards, each of which needs a small one.
        self.assertEqual(allowed((2,), tree), ((0, 0), (1, 0), (1, 0), (0, 1)))
        self.assertEqual(allowed((), ((5,), (1,), (((0,), (1,), ()), ((0,), (2,), ())))), ((0,), (2,), (3,)))
        self.assertEqual(allowed((2,), ((1, 0), (0, 0), ())), ((0, 0),))

    def test_each_good_sending_lies_within(self):
        for units in ((), (2,), (3,), (2, 3), (2, 2, 2)):
            for tree in served_trees(units, 24, 11, SHAPES[:4]):
                told = allowed(units, tree)
                self.made_of_tuples(told)
                self.assertEqual(told[0], zero_row(units))
                for sent in small_sendings(units, tree, 4):
                    if is_plain_sending(units, tree, sent):
                        self.assertTrue(all(lies_within(units, row, most) for row, most in zip(sent, told)))

    def test_each_stands_in_a_good_sending(self):
        for units in SMALL_UNITS:
            for tree in served_trees(units, 60, 12):
                told, paths = allowed(units, tree), paths_of(tree)
                for number, path in enumerate(paths):
                    sent = needs(units, tree)
                    for above in chain_of(path):
                        sent = swapped(sent, paths.index(above), told[paths.index(above)])
                    self.assertEqual(sent[number], told[number])
                    self.assertTrue(is_plain_sending(units, tree, sent))
                    self.assertIs(is_sending(units, tree, sent), True)

    def test_not_served(self):
        self.raises(Unlike, {"value": (0, 1)}, allowed, (2,), UNSERVED)
        for units in SMALL_UNITS:
            for tree in trees_for(units, 40, 13):
                need = needs(units, tree)[0]
                if any(need):
                    self.raises(Unlike, {"value": need}, allowed, units, tree)
                    for path in paths_of(tree):
                        self.raises(Unlike, {"value": need}, spare, units, tree, path)

    def test_great_numbers(self):
        tree = line_of([((MOST, MOST), (0, 0))] * 8)
        self.assertEqual(allowed((10,), tree), tuple((many * MOST, many * MOST) for many in range(8)))
        self.assertEqual(spare((10,), tree, (2, 0) * 7), (8 * MOST, 8 * MOST))
        self.assertEqual(spare((10,), tree, ()), (MOST, MOST))
        needy = line_of([((0, 0), (MOST, MOST))] * 8)
        self.raises(Unlike, {"value": (8 * MOST, 8 * MOST)}, allowed, (10,), needy)
        self.assertEqual(least_added((10,), needy, ()), (8 * MOST, 8 * MOST))

    def test_wrong(self):
        for units in ((), (2,), (2, 3)):
            tree = sample_tree(units)
            self.wrong_each(allowed, ("tree",), units, tree)
            self.wrong_each(spare, ("tree", "path"), units, tree, ())
            self.wrong_each(least_added, ("tree", "path"), units, tree, ())
            self.raises(TooGreat, {"most": 8}, allowed, units, tree_line(units, 9, sample_tree(units)))

    def test_the_path_ahead_of_what_is_lacking(self):
        self.raises(BadIndex, {"value": (2, 1)}, spare, (2,), UNSERVED, (2, 1))
        self.raises(BadIndex, {"value": None}, spare, (2,), UNSERVED, None)
        self.raises(BadIndex, {"value": (2, 1)}, least_added, (2,), UNSERVED, (2, 1))


class Spare(YardCase):
    def test_small_ones(self):
        self.assertEqual(spare((2,), EXAMPLE, ()), (0, 0))
        self.assertEqual(spare((2,), EXAMPLE, (2, 0)), (0, 0))
        tree = ((2, 0), (0, 1), (((0, 0), (0, 1), ()), ((0, 1), (0, 1), (((0, 0), (0, 0), ()),))))
        self.assertEqual(spare((2,), tree, ()), (1, 0))
        self.assertEqual(spare((2,), tree, (2, 0)), (1, 0))
        self.assertEqual(spare((2,), tree, (2, 1)), (1, 0))
        self.assertEqual(spare((2,), tree, (2, 1, 2, 0)), (1, 0))
        self.assertEqual(spare((2,), ((1, 1), (0, 0), ()), ()), (1, 1))

    def test_by_further_asks(self):
        for units in SMALL_UNITS:
            rows = rows_to(units, 4)
            for tree in served_trees(units, 24, 14):
                for path in paths_of(tree):
                    told = spare(units, tree, path)
                    self.made_of_tuples(told)
                    for row in rows:
                        served = is_plainly_served(units, with_asks(units, tree, path, row))
                        self.assertEqual(served, lies_within(units, row, told))

    def test_the_spare_itself_may_be_asked(self):
        for units in SMALL_UNITS:
            for tree in served_trees(units, 60, 15):
                for path in paths_of(tree):
                    told = spare(units, tree, path)
                    self.assertIs(is_served(units, with_asks(units, tree, path, told)), True)
                    for unit in range(len(told)):
                        more = swapped(told, unit, told[unit] + 1)
                        self.assertIs(is_served(units, with_asks(units, tree, path, more)), False)


class LeastAdded(YardCase):
    def test_small_ones(self):
        self.assertEqual(least_added((2,), EXAMPLE, ()), (0, 0))
        self.assertEqual(least_added((2,), EXAMPLE, (2, 0)), (0, 0))
        self.assertEqual(least_added((2,), UNSERVED, ()), (0, 1))
        self.assertEqual(least_added((2,), UNSERVED, (2, 0)), (0, 1))
        # What the root asks cannot be served by what is added under it.
        self.raises(NoRow, {}, least_added, (2,), ((0, 0), (0, 1), (((0, 0), (0, 0), ()),)), (2, 0))
        self.raises(NoRow, {}, least_added, (2,), ((1, 0), (1, 0), (((0, 0), (0, 1), ()), ((0, 0), (0, 1), ()))), (2, 0))
        # A yard under the other one is served by it.
        tree = ((0, 1), (0, 1), (((0, 0), (0, 0), (((0, 0), (1, 0), ()),)),))
        self.assertEqual(least_added((2,), tree, (2, 0)), (1, 0))
        self.assertEqual(least_added((2,), tree, (2, 0, 2, 0)), (1, 0))

    def test_by_all_rows(self):
        for units in SMALL_UNITS:
            rows = rows_to(units, 5)
            seen = set()
            for tree in trees_for(units, 30, 16):
                for path in paths_of(tree):
                    enough = [row for row in rows if is_plainly_served(units, with_stock(units, tree, path, row))]
                    # Fourteen pieces of each unit are more than all that is asked.
                    if not is_plainly_served(units, with_stock(units, tree, path, (14,) * len(rows[0]))):
                        seen.add("none")
                        self.assertEqual(enough, [])
                        self.raises(NoRow, {}, least_added, units, tree, path)
                        continue
                    told = least_added(units, tree, path)
                    seen.add("some" if any(told) else "zeros")
                    self.made_of_tuples(told)
                    self.assertEqual(enough, [row for row in rows if lies_within(units, told, row)])
                    self.assertTrue(is_plainly_served(units, with_stock(units, tree, path, told)))
                    if told in rows:
                        self.assertEqual(least_of(units, enough), (told,))
                    if path == ():
                        self.assertEqual(told, needs(units, tree)[0])
            self.assertEqual(seen, {"none", "some", "zeros"})

    def test_beside_what_is_allowed(self):
        for units in SMALL_UNITS:
            for tree in served_trees(units, 30, 17):
                for path in paths_of(tree):
                    self.assertEqual(least_added(units, tree, path), zero_row(units))
                    told = spare(units, tree, path)
                    asked = with_asks(units, tree, path, add(told, told))
                    lacked = least_added(units, asked, path)
                    self.assertTrue(lies_within(units, lacked, told))
                    self.assertIs(is_served(units, with_stock(units, asked, path, lacked)), True)


if __name__ == "__main__":
    unittest.main()
