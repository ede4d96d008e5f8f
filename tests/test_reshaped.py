"""Trees made of trees, asks that tell trees apart: points 32 and 33."""

import random
import unittest

from stairyard.errors import BadIndex, BadParameter, BadTree, NoRow, TooGreat, Unlike
from stairyard.reshaped import asked_more, asks_apart, closed, moved, stocked
from stairyard.yards import is_served, needs, yard_paths
from tests.tools import SMALL_UNITS, YardCase, add, has_all, lies_within, rows_to, swapped, take
from tests.trees import (
    SHAPES, changed, is_plainly_served, line_of, paths_of, some_tree, trees_for, with_asks, with_stock, yards_of)
from tests.wrongs import sample_tree, tree_line, wrong_row, wrong_tree, zero_row

MOST = 10 ** 60
LEAF = ((0, 1), (0, 0), ())


def plainly_moved(units, tree, path, row):
    lessened = changed(tree, path, tuple(-many for many in row), zero_row(units))
    return with_stock(units, lessened, path[:-2], row)


def plainly_closed(tree, path):
    """The tree of all other yards, each under the one that stands above it then."""
    stock, asks, under = tree
    if len(path) > 2:
        return (stock, asks, swapped(under, path[1], plainly_closed(under[path[1]], path[2:])))
    gone = under[path[1]]
    return (add(stock, gone[0]), add(asks, gone[1]), under[:path[1]] + gone[2] + under[path[1] + 1:])


def with_all_asks(tree, asks):
    """The tree with these asks, in the order of the walk, in the place of its own."""
    told = dict(zip(paths_of(tree), asks))

    def made(yard, path):
        return (yard[0], told[path], tuple(made(part, path + (2, at)) for at, part in enumerate(yard[2])))
    return made(tree, ())


def some_parts(chance, row):
    return tuple(chance.randrange(many + 1) for many in row)


class More(YardCase):
    def test_each_yard(self):
        for units in SMALL_UNITS:
            for tree in trees_for(units, 30, 21):
                for path in paths_of(tree):
                    for row in rows_to(units, 3)[-2:]:
                        self.assertEqual(asked_more(units, tree, path, row), with_asks(units, tree, path, row))
                        self.assertEqual(stocked(units, tree, path, row), with_stock(units, tree, path, row))
                        self.made_of_tuples(asked_more(units, tree, path, row))
                        self.made_of_tuples(stocked(units, tree, path, row))

    def test_a_yard_at_several_places(self):
        tree = ((0, 0), (0, 0), (LEAF, LEAF))
        self.assertEqual(stocked((2,), tree, (2, 1), (1, 0)), ((0, 0), (0, 0), (LEAF, ((1, 1), (0, 0), ()))))
        self.assertEqual(asked_more((2,), tree, (2, 0), (1, 0)), ((0, 0), (0, 0), (((0, 1), (1, 0), ()), LEAF)))

    def test_great_numbers(self):
        full = ((MOST, MOST), (MOST, MOST), ())
        self.assertEqual(asked_more((2,), full, (), (MOST, 1)), ((MOST, MOST), (2 * MOST, MOST + 1), ()))
        self.assertEqual(stocked((2,), full, (), (MOST, 1)), ((2 * MOST, MOST + 1), (MOST, MOST), ()))
        both = ((MOST, MOST), (MOST, MOST), (full,))
        self.assertEqual(moved((2,), both, (2, 0), (MOST, 0)), (
            (2 * MOST, MOST), (MOST, MOST), (((0, MOST), (MOST, MOST), ()),)))
        self.assertEqual(closed((2,), both, (2, 0)), ((2 * MOST, 2 * MOST), (2 * MOST, 2 * MOST), ()))
        self.raises(BadTree, {"path": ()}, closed, (2,), closed((2,), both, (2, 0)), (2, 0))

    def test_wrong(self):
        for units in ((), (2,), (2, 3)):
            tree = sample_tree(units)
            row = zero_row(units)
            self.wrong_each(asked_more, ("tree", "path", "row"), units, tree, (), row)
            self.wrong_each(stocked, ("tree", "path", "row"), units, tree, (), row)
            self.wrong_each(moved, ("tree", "path below", "row"), units, tree, (2, 0), row)
            self.wrong_each(closed, ("tree", "path below"), units, tree, (2, 0))
            self.wrong_each(asks_apart, ("tree", "tree"), units, tree, tree)


class Moved(YardCase):
    def test_whole_pieces(self):
        for units in SMALL_UNITS:
            for tree in trees_for(units, 60, 22):
                for path, (stock, _, _) in yards_of(tree)[1:]:
                    for row in rows_to(units, 4):
                        if not has_all(stock, row):
                            self.raises(BadParameter, {"value": row}, moved, units, tree, path, row)
                            continue
                        told = moved(units, tree, path, row)
                        self.made_of_tuples(told)
                        self.assertEqual(told, plainly_moved(units, tree, path, row))
                        # A served tree stays served, and an unserved one needs no more.
                        self.assertTrue(lies_within(units, needs(units, told)[0], needs(units, tree)[0]))

    def test_all_pieces_and_one_more(self):
        tree = ((0, 0), (0, 0), (((3, 5), (0, 0), ()),))
        self.assertEqual(moved((2,), tree, (2, 0), (3, 5)), ((3, 5), (0, 0), (((0, 0), (0, 0), ()),)))
        self.assertEqual(moved((2,), tree, (2, 0), (0, 0)), tree)
        self.raises(BadParameter, {"value": (3, 6)}, moved, (2,), tree, (2, 0), (3, 6))
        self.raises(BadParameter, {"value": (4, 5)}, moved, (2,), tree, (2, 0), (4, 5))
        # Pieces are moved as they are: none is cut for it.
        self.raises(BadParameter, {"value": (0, 7)}, moved, (2,), tree, (2, 0), (0, 7))

    def test_not_from_the_root(self):
        tree = ((3, 5), (0, 0), (LEAF,))
        for row in ((0, 0), (9, 9), None, (1,)):
            self.raises(BadIndex, {"value": ()}, moved, (2,), tree, (), row)
        self.raises(BadIndex, {"value": (2, 1)}, moved, (2,), tree, (2, 1), None)
        self.raises(BadIndex, {"value": ()}, closed, (2,), tree, ())

    def test_two_yards_down(self):
        tree = line_of([((0, 0), (0, 0)), ((0, 0), (0, 0)), ((2, 1), (0, 1))])
        self.assertEqual(moved((2,), tree, (2, 0, 2, 0), (1, 1)),
                         line_of([((0, 0), (0, 0)), ((1, 1), (0, 0)), ((1, 0), (0, 1))]))


class Closed(YardCase):
    def test_each_yard(self):
        for units in SMALL_UNITS:
            for tree in trees_for(units, 60, 23):
                for path in paths_of(tree)[1:]:
                    told = closed(units, tree, path)
                    self.made_of_tuples(told)
                    self.assertEqual(told, plainly_closed(tree, path))
                    self.assertEqual(len(yard_paths(units, told)), len(paths_of(tree)) - 1)
                    self.assertTrue(lies_within(units, needs(units, told)[0], needs(units, tree)[0]))
                    if is_plainly_served(units, tree):
                        self.assertIs(is_served(units, told), True)

    def test_with_yards_under_it(self):
        first, second, third = ((0, 1), (1, 0), ()), ((0, 2), (1, 0), ()), ((0, 3), (1, 0), ())
        tree = ((0, 4), (0, 1), (first, ((5, 0), (0, 6), (second, third)), first))
        self.assertEqual(closed((2,), tree, (2, 1)), ((5, 4), (0, 7), (first, second, third, first)))
        self.assertEqual(closed((2,), tree, (2, 1, 2, 0)),
                         ((0, 4), (0, 1), (first, ((5, 2), (1, 6), (third,)), first)))
        self.assertEqual(closed((2,), tree, (2, 2)), ((0, 5), (1, 1), tree[2][:2]))

    def test_a_root_without_anything(self):
        for units in SMALL_UNITS:
            for one, other in zip(trees_for(units, 30, 24), trees_for(units, 30, 25)):
                root = (zero_row(units), zero_row(units), (one, other))
                if len(paths_of(root)) <= 8:
                    self.assertEqual(needs(units, root)[0], add(needs(units, one)[0], needs(units, other)[0]))


class Apart(YardCase):
    def test_just_one_serves_them(self):
        chance = random.Random(26)
        for units in SMALL_UNITS:
            stocks, asks = rows_to(units, 3), rows_to(units, 2)
            seen = set()
            for _ in range(60):
                shape = chance.choice(SHAPES)
                one, other = (some_tree(chance, shape, stocks, asks) for _ in range(2))
                held = [[yard[0] for _, yard in yards_of(tree)] for tree in (one, other)]
                if held[0] == held[1]:
                    self.raises(NoRow, {}, asks_apart, units, one, other)
                    continue
                told = asks_apart(units, one, other)
                self.made_of_tuples(told)
                serve = [is_plainly_served(units, with_all_asks(tree, told)) for tree in (one, other)]
                self.assertEqual(sum(serve), 1)
                by_other = is_plainly_served(units, with_all_asks(other, held[0]))
                seen.add(by_other)
                self.assertEqual(told, tuple(held[1] if by_other else held[0]))
            self.assertEqual(seen, {True, False})

    def test_trees_that_differ_at_one_yard_alone(self):
        for units in SMALL_UNITS:
            for tree in trees_for(units, 30, 27):
                stocks = tuple(yard[0] for _, yard in yards_of(tree))
                for number, path in enumerate(paths_of(tree)):
                    for unit in range(len(units) + 1):
                        more = with_stock(units, tree, path, swapped(zero_row(units), unit, 1))
                        told = swapped(stocks, number, add(stocks[number], swapped(zero_row(units), unit, 1)))
                        self.assertEqual(asks_apart(units, tree, more), told)
                        self.assertEqual(asks_apart(units, more, tree), told)

    def test_asks_do_not_matter(self):
        tree = ((1, 0), (0, 0), (LEAF,))
        asked = ((1, 0), (7, 7), (((0, 1), (MOST, 0), ()),))
        self.raises(NoRow, {}, asks_apart, (2,), tree, asked)
        self.raises(NoRow, {}, asks_apart, (2,), asked, asked)
        other = ((0, 2), (9, 9), (((0, 1), (MOST, 0), ()),))
        self.assertEqual(asks_apart((2,), asked, other), ((1, 0), (0, 1)))
        self.assertEqual(asks_apart((2,), other, asked), ((1, 0), (0, 1)))
        self.assertEqual(take(asks_apart((2,), other, tree)[0], (1, 0)), (0, 0))

    def test_unlike_shapes(self):
        pair = ((0, 0), (0, 0), (LEAF, LEAF))
        for one, other, path in (
                (LEAF, pair, ()), (pair, LEAF, ()), (pair, ((0, 0), (0, 0), (LEAF,)), ()),
                (((0, 0), (0, 0), (LEAF, pair)), ((0, 0), (0, 0), (LEAF, LEAF)), (2, 1)),
                (((0, 0), (0, 0), (pair, pair)), ((0, 0), (0, 0), (pair, LEAF)), (2, 1)),
                (((0, 0), (0, 0), (pair, LEAF)), ((0, 0), (0, 0), (LEAF, pair)), (2, 0)),
                (tree_line((2,), 4, LEAF), tree_line((2,), 3, LEAF), (2, 0, 2, 0)),
                (tree_line((2,), 3, LEAF), tree_line((2,), 8, LEAF), (2, 0, 2, 0)),
                (tree_line((2,), 3, pair), tree_line((2,), 3, LEAF), (2, 0, 2, 0))):
            self.raises(Unlike, {"value": path}, asks_apart, (2,), one, other)

    def test_one_ahead_of_the_other(self):
        nine = tree_line((2,), 9, LEAF)
        self.raises(TooGreat, {"most": 8}, asks_apart, (2,), nine, None)
        self.raises(BadTree, {"path": ()}, asks_apart, (2,), None, nine)
        self.raises(TooGreat, {"most": 8}, asks_apart, (2,), LEAF, nine)
        self.raises(BadTree, {"path": ()}, asks_apart, (2,), LEAF, None)

    def test_great_numbers(self):
        one = line_of([((MOST, MOST), (0, 0))] * 8)
        other = line_of([((MOST, MOST), (0, 0))] * 7 + [((MOST, MOST - 1), (0, 0))])
        self.assertEqual(asks_apart((10,), one, other), ((MOST, MOST),) * 8)
        self.assertEqual(asks_apart((10,), other, one), ((MOST, MOST),) * 8)
        above = line_of([((MOST, MOST - 1), (0, 0))] + [((MOST, MOST), (0, 0))] * 7)
        # What the root has more there is sent down to the last yard.
        self.assertEqual(asks_apart((10,), above, other), ((MOST, MOST),) * 7 + ((MOST, MOST - 1),))


class WrongOnes(YardCase):
    def test_rows_of_other_units(self):
        for units in ((2,), (2, 3)):
            self.assertTrue(list(wrong_row(units)) and list(wrong_tree(units)))
            self.raises(BadTree, {"path": (2, 0)}, closed, units, (
                zero_row(units), zero_row(units), (sample_tree(()),)), (2, 0))


if __name__ == "__main__":
    unittest.main()
