"""Yards in trees, sendings, needs, papers that a tree is not served: points 26 to 29."""

import itertools
import unittest

from stairyard.errors import NoRow, TooGreat
from stairyard.yards import (
    is_lack_paper, is_sending, is_served, lack_paper, need_tree, needs, yard_paths)
from tests.tools import (
    PAPERS, SMALL_UNITS, YardCase, add, least_of, lies_within, plain_stair, rows_to, size_of, spoilt, swapped)
from tests.trees import (
    SHAPES, is_plain_sending, is_plainly_served, line_of, paths_of, small_sendings, trees_for, under_of, with_stock,
    yards_of)
from tests.wrongs import sample_tree, tree_line, zero_row

MOST = 10 ** 60
LEAF = ((0, 1), (0, 0), ())
# A yard under the root asks three small pieces and has one large one; the root has one small one.
EXAMPLE = ((0, 1), (0, 0), (((1, 0), (0, 3), ()),))
UNSERVED = ((0, 1), (0, 0), (((1, 0), (0, 4), ()),))


def is_plain_paper(units, tree, value):
    """Whether a tuple of units and None shows that a tree is not served."""
    told = dict(zip(paths_of(tree), value))
    if told[()] is None:
        return False
    together = 0
    for path, (stock, asks, _) in yards_of(tree):
        unit = told[path]
        if unit is not None:
            if path != () and (told[path[:-2]] is None or told[path[:-2]] < unit):
                return False
            gap = plain_stair(units, asks)[unit] - plain_stair(units, stock)[unit]
            together += gap * size_of(units, unit)
    return together > 0


def all_papers(units, tree):
    return itertools.product((None, *range(len(units) + 1)), repeat=len(paths_of(tree)))


class Trees(YardCase):
    def test_good_trees(self):
        for units in SMALL_UNITS:
            for tree in trees_for(units, 30):
                self.assertEqual(need_tree(units, tree), tree)
                self.assertEqual(yard_paths(units, tree), tuple(paths_of(tree)))
                self.made_of_tuples(need_tree(units, tree))
        self.assertEqual(need_tree((2,), ((MOST, MOST), (MOST, 0), ())), ((MOST, MOST), (MOST, 0), ()))

    def test_eight_and_nine(self):
        eight = tree_line((2,), 8, LEAF)
        self.assertEqual(yard_paths((2,), eight), tuple((2, 0) * deep for deep in range(8)))
        self.assertEqual(need_tree((2,), eight), eight)
        wide = ((0, 0), (0, 0), (LEAF,) * 7)
        self.assertEqual(yard_paths((2,), wide), ((), *[(2, index) for index in range(7)]))
        for nine in (tree_line((2,), 9, LEAF), ((0, 0), (0, 0), (LEAF,) * 8)):
            for function in (need_tree, yard_paths, needs, is_served, lack_paper):
                self.raises(TooGreat, {"most": 8}, function, (2,), nine)
            self.raises(TooGreat, {"most": 8}, is_sending, (2,), nine, None)
            self.raises(TooGreat, {"most": 8}, is_lack_paper, (2,), nine, None)

    def test_a_yard_at_several_places(self):
        twin = ((0, 0), (0, 1), (LEAF,))
        tree = ((0, 1), (0, 0), (twin, LEAF, twin, LEAF))
        paths = ((), (2, 0), (2, 0, 2, 0), (2, 1), (2, 2), (2, 2, 2, 0), (2, 3))
        self.assertEqual(yard_paths((2,), tree), paths)
        self.assertEqual(needs((2,), tree), ((0, 1), (0, 1), (0, 0), (0, 0), (0, 1), (0, 0), (0, 0)))
        half = ((0, 0), (0, 0), (LEAF, LEAF, LEAF))
        self.raises(TooGreat, {"most": 8}, need_tree, (2,), ((0, 0), (0, 0), (half, half)))

    def test_wrong(self):
        for units in ((), (2,), (2, 3)):
            tree = sample_tree(units)
            for function in (need_tree, yard_paths, needs, is_served, lack_paper):
                self.wrong_each(function, ("tree",), units, tree)
            self.wrong_each(is_sending, ("tree", None), units, tree, None)
            self.wrong_each(is_lack_paper, ("tree", None), units, tree, None)


class Needs(YardCase):
    def test_example(self):
        self.assertEqual(needs((2,), EXAMPLE), ((0, 0), (0, 1)))
        self.assertEqual(needs((2,), ((0, 1), (0, 0), (((1, 0), (1, 1), ()),))), ((0, 0), (0, 1)))
        self.assertEqual(needs((2,), UNSERVED), ((0, 1), (0, 2)))
        self.assertIs(is_served((2,), EXAMPLE), True)
        self.assertIs(is_served((2,), UNSERVED), False)

    def test_served_by_all_ways(self):
        for units in SMALL_UNITS:
            served = 0
            for tree in trees_for(units, 60):
                told = is_plainly_served(units, tree)
                served += told
                self.assertIs(is_served(units, tree), told)
                self.assertEqual(any(needs(units, tree)[0]), not told)
            self.assertTrue(0 < served < 60)

    def test_root_lacks_its_need(self):
        for units in SMALL_UNITS:
            for tree in trees_for(units, 18, 2):
                need = needs(units, tree)[0]
                if sum(plain_stair(units, need)) <= 9:
                    rows = rows_to(units, 6)
                    enough = [row for row in rows if is_plainly_served(units, with_stock(units, tree, (), row))]
                    self.assertEqual(enough, [row for row in rows if lies_within(units, need, row)])
                    if need in rows:
                        self.assertEqual(least_of(units, enough), (need,))

    def test_by_all_ways_of_sending(self):
        shapes = SHAPES[:4]
        for units in ((), (2,), (3,), (2, 3), (2, 2, 2)):
            for tree in trees_for(units, 24, 3, shapes):
                told = needs(units, tree)
                good = [sent for sent in small_sendings(units, tree, 4) if is_plain_sending(units, tree, sent)]
                self.assertEqual(is_plain_sending(units, tree, told), is_plainly_served(units, tree))
                self.assertTrue(is_served(units, tree) or not good)
                for sent in good:
                    self.assertTrue(all(lies_within(units, need, row) for need, row in zip(told, sent)))

    def test_of_one_yard_each(self):
        for units in SMALL_UNITS:
            for tree in trees_for(units, 30, 4):
                told = dict(zip(paths_of(tree), needs(units, tree)))
                self.made_of_tuples(needs(units, tree))
                rows = rows_to(units, 6)
                for path, (stock, asks, _) in yards_of(tree):
                    asked = add(asks, *[told[other] for other in under_of(tree, path)])
                    lacks = [row for row in rows if lies_within(units, asked, add(stock, row))]
                    self.assertTrue(all(lies_within(units, told[path], row) for row in lacks))
                    self.assertTrue(lies_within(units, asked, add(stock, told[path])))

    def test_zeros_but_for_one_least_piece(self):
        for units in SMALL_UNITS:
            rows = [(row, row) for row in (zero_row(units), *rows_to(units, 3)[-2:])]
            least = swapped(zero_row(units), len(units), 1)
            for deep in range(3):
                yards = list(rows)
                yards[deep] = (yards[deep][0], add(yards[deep][1], least))
                tree = line_of(yards)
                self.assertEqual(needs(units, tree), (least,) * (deep + 1) + (zero_row(units),) * (2 - deep))
                self.assertIs(is_served(units, tree), False)
                self.assertIs(is_served(units, with_stock(units, tree, (), least)), True)

    def test_great_numbers(self):
        full = (MOST, MOST)
        tree = ((0, 0), full, (((0, 0), full, (((0, 0), full, ()),)),) * 2)
        told = needs((10,), tree)
        self.assertEqual(told[0], (5 * MOST, 5 * MOST))
        self.assertIs(is_sending((10,), (full, (0, 0), (((0, 0), full, ()),)), ((0, 0), full)), True)
        over = ((MOST, 0), (0, 0), (((0, 0), (0, 0), (((0, 0), (0, 9 * MOST // 10), ()),)),))
        self.assertEqual(needs((10,), over), ((0, 0), (0, 9 * MOST // 10), (0, 9 * MOST // 10)))
        self.assertEqual(needs((), ((MOST,), (MOST,), (((0,), (MOST,), ()),) * 7)), ((7 * MOST,),) + ((MOST,),) * 7)


class Sendings(YardCase):
    def test_all_small_ones(self):
        for units in ((), (2,), (3,), (2, 2), (2, 2, 2)):
            for tree in trees_for(units, 20, 5, SHAPES[:4]):
                for sent in small_sendings(units, tree, 3):
                    self.assertIs(is_sending(units, tree, sent), is_plain_sending(units, tree, sent))

    def test_more_than_a_row_may_have(self):
        tree = ((MOST, 0), (0, 0), (((0, 0), (0, 0), ()),))
        for sent, told in (((MOST, 0), True), ((0, 10 * MOST), True), ((0, 10 * MOST + 1), False),
                           ((MOST - 1, 10), True), ((MOST + 1, 0), False), ((0, MOST * MOST), False)):
            self.assertIs(is_sending((10,), tree, ((0, 0), sent)), told)
        back = ((0, 0), (0, 0), (((MOST, 0), (0, 0), ()),))
        self.assertIs(is_sending((10,), back, ((0, 0), (0, 1))), False)
        self.assertIs(is_sending((10,), back, ((0, 0), (0, 0))), True)
        self.assertIs(is_sending((10,), back, ((0, 1), (0, 0))), False)
        self.assertIs(is_sending((10,), back, ((0, -1), (0, 0))), False)
        self.assertIs(is_sending((10,), ((0, 1), (0, 0), (((0, 0), (0, 0), ()),)), ((0, 1), (0, 2))), False)

    def test_values_of_every_kind(self):
        self.judges(is_sending, ((0, 0), (0, 1)), (2,), EXAMPLE)
        tree = ((1, 0), (0, 1), (((0, 0), (0, 1), ()), ((1, 0), (1, 0), (((0, 1), (0, 0), ()),))))
        self.judges(is_sending, ((0, 0), (0, 1), (0, 0), (0, 0)), (2,), tree)
        for value in (((0, 0),), ((0, 0),) * 3, ((0, 0), (0, 1), (0, 0)), ((0,), (0,)), ((0, 0, 0), (0, 0, 1))):
            self.assertIs(is_sending((2,), EXAMPLE, value), False)
        for value in (*PAPERS, *spoilt(((0, 0), (0, 2)))):
            self.assertIs(is_sending((2,), UNSERVED, value), False)

    def test_the_needs_are_one_if_there_is_one(self):
        for units in SMALL_UNITS:
            for tree in trees_for(units, 60, 6):
                self.assertIs(is_sending(units, tree, needs(units, tree)), is_served(units, tree))


class Papers(YardCase):
    def test_example(self):
        for value, told in (((1, 1), True), ((0, 1), False), ((1, 0), False), ((0, 0), False), ((1, None), False)):
            self.assertIs(is_lack_paper((2,), UNSERVED, value), told)
        self.raises(NoRow, {}, lack_paper, (2,), EXAMPLE)

    def test_all_of_them(self):
        for units in SMALL_UNITS:
            for tree in trees_for(units, 30, 7):
                papers = []
                for value in all_papers(units, tree):
                    told = is_plain_paper(units, tree, value)
                    self.assertIs(is_lack_paper(units, tree, value), told)
                    papers += [value] * told
                # There is one exactly if the tree is not served.
                self.assertEqual(papers == [], is_plainly_served(units, tree))
                if papers:
                    self.assertIn(lack_paper(units, tree), papers)
                    self.assertEqual(lack_paper(units, tree).__class__, tuple)
                else:
                    self.raises(NoRow, {}, lack_paper, units, tree)

    def test_none_above_a_unit(self):
        tree = ((0, 5), (0, 0), (((0, 0), (0, 0), (((0, 0), (0, 9), ()),)),))
        self.assertIs(is_lack_paper((2,), tree, (1, 1, 1)), True)
        self.assertIs(is_lack_paper((2,), tree, (1, None, 1)), False)
        self.assertIs(is_lack_paper((2,), tree, (None, 1, 1)), False)
        self.assertIs(is_lack_paper((2,), tree, (None, None, None)), False)
        self.assertIs(is_lack_paper((2,), tree, (1, 0, 1)), False)
        self.assertEqual(lack_paper((2,), tree), (1, 1, 1))

    def test_great_numbers(self):
        line = [((MOST, 0), (0, MOST))] * 7
        tree = line_of(line + [((0, 0), (MOST, MOST))])
        self.assertIs(is_served((10,), tree), True)
        self.raises(NoRow, {}, lack_paper, (10,), tree)
        tree = line_of([((0, MOST), (0, 0))] * 7 + [((0, 0), (MOST, 0))])
        paper = lack_paper((10,), tree)
        self.assertTrue(is_plain_paper((10,), tree, paper))
        self.assertIs(is_lack_paper((10,), tree, paper), True)
        self.assertIs(is_lack_paper((10,), tree, (0,) * 8), True)
        self.assertIs(is_lack_paper((10,), tree, (1,) * 8), True)
        self.assertIs(is_lack_paper((10,), line_of([((0, MOST), (0, 0))] * 7 + [((0, 0), (0, 7 * MOST // 8))]),
                                    (1,) * 8), False)

    def test_values_of_every_kind(self):
        self.judges(is_lack_paper, (1, 1), (2,), UNSERVED)
        tree = ((0, 0), (1, 0), (((0, 0), (0, 1), ()), ((1, 0), (0, 0), (((0, 1), (0, 0), ()),))))
        self.judges(is_lack_paper, (0, None, None, None), (2,), tree)
        for value in ((), (1,), (1, 1, 1), (2, 1), (1, 2), (-1, -1), (1, -1), (None, 1), (10 ** 70, 1)):
            self.assertIs(is_lack_paper((2,), UNSERVED, value), False)
        for value in (*PAPERS, *spoilt((1, 1))):
            self.assertIs(is_lack_paper((2,), EXAMPLE, value), False)


if __name__ == "__main__":
    unittest.main()
