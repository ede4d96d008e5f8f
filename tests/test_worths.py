"""The greatest worth of items that a stock serves, choices that have it, more worth by one piece: point 67."""

import itertools
import random
import unittest

from stairyard.errors import BadParameter, TooGreat
from stairyard.worths import best_choice, best_worth, is_best_choice, more_worth
from tests.tools import PAPERS, STRAY, WRONG, Alike, YardCase, add, lies_within, no_integer_to, rows_to, serves, swapped
from tests.wrongs import zero_row

FAR = 10 ** 60


def wrong_items(units):
    for value in (*STRAY, [(0, 0)], Alike(), range(2)):
        yield value, BadParameter, {"value": value}
    for value in ((None,) * 61, ((0, 0),) * 61):
        yield value, TooGreat, {"most": 60}
    wrong = [*STRAY, (), (0,), (0, 0, 0), [0, 0], Alike(), (Alike(), 0), (0, Alike()), "00"]
    wrong += [(unit, 0) for unit in no_integer_to(len(units))] + [(0, worth) for worth in no_integer_to(FAR)]
    for item in wrong:
        for value in ((item,), ((0, 0), (0, FAR), item, None), ((0, 0),) * 59 + (item,)):
            yield value, BadParameter, {"value": value}


WRONG["items"] = wrong_items


def row_of(units, items, numbers):
    return tuple(sum(items[number][0] == unit for number in numbers) for unit in range(len(units) + 1))


def choices(units, stock, items):
    """All choices and their worths."""
    for many in range(len(items) + 1):
        for numbers in itertools.combinations(range(len(items)), many):
            if lies_within(units, row_of(units, items, numbers), stock):
                yield numbers, sum(items[number][1] for number in numbers)


def plain_best(units, stock, items):
    return max(worth for _, worth in choices(units, stock, items))


def samples(seed, many):
    """Units, stocks and some items."""
    chance = random.Random(seed)
    for number in range(many):
        units = ((), (2,), (3,), (2, 3), (2, 2), (2, 2, 2))[number % 6]
        stock = chance.choice(rows_to(units, 12 if units else 4))
        items = tuple((chance.randrange(len(units) + 1), chance.choice((0, 1, 2, 3, 4, 5, 9, 9, 20)))
                      for _ in range(chance.randrange(8)))
        yield units, stock, items


class Worths(YardCase):
    def test_example(self):
        items = ((1, 5), (1, 4), (1, 4), (0, 7))
        self.assertEqual(best_worth((2,), (1, 1), items), 13)
        self.assertEqual(best_choice((2,), (1, 1), items), (0, 1, 2))
        self.assertEqual(more_worth((2,), (1, 1), items), (7, 3))
        self.judges(is_best_choice, (0, 1, 2), (2,), (1, 1), items)
        # Two small pieces more are worth more than twice what one is: 7 and 3 behind the first.
        self.assertEqual(best_worth((2,), (1, 3), items), 20)

    def test_all_choices(self):
        for units, stock, items in samples(1, 600):
            with self.subTest(units=units, stock=stock, items=items):
                best = plain_best(units, stock, items)
                self.assertEqual(best_worth(units, stock, items), best)
                choice = best_choice(units, stock, items)
                self.made_of_tuples(choice)
                self.assertEqual(list(choice), sorted(set(choice)))
                self.assertTrue(serves(units, stock, row_of(units, items, choice)))
                self.assertEqual(sum(items[number][1] for number in choice), best)
                self.assertIs(is_best_choice(units, stock, items, choice), True)
                more = [plain_best(units, add(stock, swapped(zero_row(units), unit, 1)), items) - best
                        for unit in range(len(units) + 1)]
                self.assertEqual(more_worth(units, stock, items), tuple(more))
                self.made_of_tuples(more_worth(units, stock, items))

    def test_one_more_piece_is_worth_what_it_is_cut_into(self):
        for units, stock, items in samples(2, 400):
            best = best_worth(units, stock, items)
            for unit, ratio in enumerate(units):
                cut = add(stock, swapped(zero_row(units), unit + 1, ratio))
                self.assertGreaterEqual(more_worth(units, stock, items)[unit], best_worth(units, cut, items) - best)

    def test_judged(self):
        for units, stock, items in samples(3, 150):
            good = {numbers for numbers, worth in choices(units, stock, items)
                    if worth == plain_best(units, stock, items)}
            for many in range(min(len(items), 4) + 1):
                for numbers in itertools.permutations(range(len(items)), many):
                    self.assertIs(is_best_choice(units, stock, items, numbers), numbers in good)
            for value in PAPERS:
                self.assertIn(is_best_choice(units, stock, items, value), (True, False))
            self.assertIs(is_best_choice(units, stock, items, (len(items),)), False)
            self.assertIs(is_best_choice(units, stock, items, (-1,)), False)
        # The worth would be right, but a number stands twice, or the stock does not serve it.
        self.assertIs(is_best_choice((2,), (0, 2), ((1, 5), (1, 5)), (0, 0)), False)
        self.assertIs(is_best_choice((2,), (0, 2), ((1, 5), (1, 5)), (1, 0)), False)
        self.assertIs(is_best_choice((2,), (0, 2), ((0, 5), (1, 5)), (0,)), False)
        self.assertIs(is_best_choice((2,), (0, 1), ((0, 5), (1, 5)), (0,)), False)

    def test_sixty_items(self):
        units = (10, 10, 10)
        items = tuple((k % 4, FAR if k % 3 else 0) for k in range(60))
        everything = (FAR,) * 4
        self.assertEqual(best_worth(units, everything, items), 40 * FAR)
        self.assertEqual(more_worth(units, everything, items), (0, 0, 0, 0))
        self.assertEqual(best_worth(units, zero_row(units), items), 0)
        self.assertEqual(best_choice(units, zero_row(units), items), ())
        # One of ten pieces is cut further, for ten items together as dear as ten others.
        self.assertEqual(more_worth(units, zero_row(units), items), (28 * FAR, 19 * FAR, 10 * FAR, FAR))
        self.raises(TooGreat, {"most": 60}, best_worth, units, everything, items + ((0, 0),))
        self.assertEqual(best_worth(units, (0, 0, 1, 0), ((3, 1),) * 60), 10)
        self.assertEqual(best_worth(units, (0, 0, 1, 3), ((3, 7),) * 60), 91)
        self.assertEqual(best_choice((), (60,), ((0, 0),) * 60)[:0], ())
        self.assertEqual(best_worth((), (59,), ((0, 1),) * 60), 59)
        self.assertEqual(best_worth(units, everything, ()), 0)
        self.assertEqual(best_choice(units, everything, ()), ())
        self.assertIs(is_best_choice(units, everything, (), ()), True)
        # Items that are worth nothing may be chosen or not.
        for value in ((), (0,), (0, 1), (1,)):
            self.assertIs(is_best_choice((2,), (1, 1), ((1, 0), (0, 0)), value), True)

    def test_great_and_small_things_beside_each_other(self):
        # Two small items together are dearer than a large one, one of them alone is not.
        items = ((0, 10), (1, 6), (1, 6), (1, 1))
        self.assertEqual(best_choice((2,), (1, 0), items), (1, 2))
        self.assertEqual(best_worth((2,), (1, 1), items), 16)
        self.assertEqual(best_worth((2, 2), (1, 0, 0), ((2, 3), (2, 3), (2, 3), (1, 5), (0, 11))), 11)
        self.assertEqual(best_worth((2, 2), (1, 0, 0), ((2, 3), (2, 3), (2, 3), (1, 6), (0, 11))), 12)

    def test_wrong(self):
        for units in ((), (2,), (2, 3)):
            row = zero_row(units)
            for function in (best_worth, best_choice, more_worth):
                self.wrong_each(function, ("row", "items"), units, row, ())
            self.wrong_each(is_best_choice, ("row", "items", None), units, row, (), None)


if __name__ == "__main__":
    unittest.main()
