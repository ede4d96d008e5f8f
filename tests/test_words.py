"""Words, first words, words behind other ones, words in order, two readings: points 51 to 55."""

import itertools
import unittest

from stairyard.errors import BadWords, NoRow, TooGreat, Unlike
from stairyard.rows import stair_of
from stairyard.stairs import rest
from stairyard.words import (
    first_words, free_words, is_two_readings, need_words, order_end, two_readings, words_behind, words_clash,
    words_in_order, words_row)
from tests.tools import SMALL_UNITS, YardCase, add, lies_within, product_of, rows_to, size_of, total_of
from tests.wrong_shapes import wrong_code
from tests.wrongs import zero_row


def all_words(units):
    """All words, ascending."""
    lengths = range(len(units) + 1)
    return sorted(word for length in lengths for word in itertools.product(*map(range, units[:length])))


def begins(one, other):
    return other[:len(one)] == one


def are_apart(*words):
    return not any(begins(one, other) for one, other in itertools.permutations(words, 2))


def one_piece(units):
    return (1,) + (0,) * len(units)


def greedy(units, words, row):
    """Further words, each the least one that all ahead let; None if there is none at last."""
    found = []
    for length, many in enumerate(row):
        for _ in range(many):
            free = [word for word in all_words(units) if len(word) == length and are_apart(*words, *found, word)]
            if not free:
                return None
            found.append(free[0])
    return tuple(found)


def can_be_told(units, words, row):
    """Whether there are further words with a row, in any way."""
    if not any(row):
        return True
    length = min(k for k, many in enumerate(row) if many)
    less = row[:length] + (row[length] - 1,) + row[length + 1:]
    return any(can_be_told(units, (*words, word), less)
               for word in all_words(units) if len(word) == length and are_apart(*words, word))


def apart_samples(units, most):
    """Tuples of at most so many words that are apart, in several orders."""
    for many in range(most + 1):
        for words in itertools.combinations(all_words(units), many):
            if are_apart(*words):
                yield words
                if many == 2:
                    yield words[::-1]


class Words(YardCase):
    def test_all_words(self):
        for units in SMALL_UNITS:
            words = tuple(all_words(units))
            self.assertEqual(need_words(units, words), words)
            self.made_of_tuples(need_words(units, words))
            self.assertEqual(need_words(units, ()), ())
            row = tuple(len(list(product_of(*map(range, units[:k])))) for k in range(len(units) + 1))
            self.assertEqual(words_row(units, words), row)

    def test_rows(self):
        self.assertEqual(words_row((), ()), (0,))
        self.assertEqual(words_row((), ((), (), ())), (3,))
        self.assertEqual(words_row((2, 3), ((0, 1), (0,), (1, 2), (0, 1))), (0, 1, 3))
        self.assertEqual(words_row((2, 3), ((0,),) * 60), (0, 60, 0))
        self.assertEqual(need_words((9, 10), ((8, 9),) * 60), ((8, 9),) * 60)

    def test_clashes(self):
        for units in ((), (2,), (2, 3), (2, 2, 2)):
            for words in itertools.product(all_words(units)[:9], repeat=3):
                pairs = [(i, j) for i, j in itertools.combinations(range(3), 2) if not are_apart(words[i], words[j])]
                with self.subTest(units=units, words=words):
                    if pairs:
                        self.assertEqual(words_clash(units, words), min(pairs))
                    else:
                        self.raises(NoRow, {}, words_clash, units, words)

    def test_clash_edges(self):
        self.assertEqual(words_clash((2,), ((), (0,))), (0, 1))
        self.assertEqual(words_clash((2,), ((0,), ())), (0, 1))
        self.assertEqual(words_clash((2, 2), ((0, 1), (1,), (0,), (1, 0))), (0, 2))
        self.assertEqual(words_clash((2, 2), ((0, 1), (1,), (0, 0), (1, 0))), (1, 3))
        self.assertEqual(words_clash((2, 2), ((1, 1), (0, 1), (1, 1))), (0, 2))
        self.raises(NoRow, {}, words_clash, (2, 2), ())
        self.raises(NoRow, {}, words_clash, (2, 2), ((),))

    def test_wrong(self):
        for units in ((), (2,), (2, 3), (10, 10, 10)):
            row = zero_row(units)
            self.wrong_each(need_words, ("words",), units, ((),))
            self.wrong_each(words_row, ("words",), units, ((),))
            self.wrong_each(words_clash, ("words",), units, ((),))
            self.wrong_each(free_words, ("words",), units, ((), ()))
            self.wrong_each(words_behind, ("words", "row"), units, ((), ()), row)
            self.wrong_each(first_words, ("row",), units, (2,) + row[1:])
            self.wrong_each(order_end, ("lengths",), units, (0, 0))
            self.wrong_each(words_in_order, ("lengths",), units, (0, 0))


class FirstWords(YardCase):
    def test_example(self):
        self.assertEqual(first_words((2, 3), (0, 1, 2)), ((0,), (1, 0), (1, 1)))
        self.raises(Unlike, {"value": 2}, first_words, (2, 3), (0, 2, 1))

    def test_all_rows(self):
        for units in SMALL_UNITS:
            for row in rows_to(units, size_of(units, 0) + 2):
                with self.subTest(units=units, row=row):
                    words = greedy(units, (), row)
                    self.assertEqual(words is not None, lies_within(units, row, one_piece(units)))
                    if words is None:
                        limit = stair_of(units, one_piece(units))
                        full = [k for k, number in enumerate(stair_of(units, row)) if number > limit[k]]
                        self.raises(Unlike, {"value": full[0]}, first_words, units, row)
                    else:
                        self.assertEqual(first_words(units, row), words)
                        self.made_of_tuples(first_words(units, row))
                        self.assertEqual(words_row(units, words), row)

    def test_there_are_words_exactly_if_the_row_fits(self):
        for units in ((2,), (2, 2), (3,), (2, 3)):
            for row in rows_to(units, size_of(units, 0) + 1):
                self.assertEqual(can_be_told(units, (), row), lies_within(units, row, one_piece(units)))

    def test_sixty_and_more(self):
        self.assertEqual(len(first_words((10, 10), (0, 0, 60))), 60)
        self.assertEqual(first_words((10, 10), (0, 0, 60))[59], (5, 9))
        self.assertEqual(first_words((10, 10), (0, 5, 50))[54], (9, 9))
        self.raises(TooGreat, {"most": 60}, first_words, (10, 10), (0, 0, 61))
        self.raises(TooGreat, {"most": 60}, first_words, (10, 10, 10), (0, 0, 1, 60))
        self.raises(Unlike, {"value": 2}, first_words, (10, 10), (0, 5, 51))
        self.raises(Unlike, {"value": 0}, first_words, (10, 10), (2, 0, 61))
        self.raises(Unlike, {"value": 2}, first_words, (10, 10, 10), (0, 0, 10 ** 60, 10 ** 60))
        self.raises(Unlike, {"value": 0}, first_words, (), (2,))
        self.assertEqual(first_words((10, 10, 10), (1, 0, 0, 0)), ((),))
        self.raises(Unlike, {"value": 3}, first_words, (10, 10, 10), (1, 0, 0, 1))
        self.assertEqual(first_words((10, 10), (0, 0, 0)), ())


class FreeWords(YardCase):
    def test_example(self):
        self.assertEqual(free_words((2, 2), ((0, 0), (1, 0))), ((0, 1), (1, 1)))
        self.assertEqual(rest((2, 2), (1, 0, 0), (0, 0, 2)), (0, 1, 0))

    def test_all_free_words(self):
        for units in ((), (2,), (3,), (2, 3), (2, 2, 2)):
            for words in apart_samples(units, 3 if len(units) < 3 else 2):
                free = [word for word in all_words(units) if are_apart(*words, word)]
                free = [word for word in free if not any(begins(one, word) and one != word for one in free)]
                with self.subTest(units=units, words=words):
                    self.assertEqual(free_words(units, words), tuple(free))
                    self.made_of_tuples(free_words(units, words))
                    within = rest(units, one_piece(units), words_row(units, words))
                    self.assertTrue(lies_within(units, words_row(units, tuple(free)), within))

    def test_words_behind_are_the_least_ones(self):
        for units in ((), (2,), (3,), (2, 3), (2, 2, 2)):
            for words in apart_samples(units, 2 if len(units) < 3 else 1):
                free_row = words_row(units, free_words(units, words))
                for row in rows_to(units, min(size_of(units, 0) + 1, 7)):
                    with self.subTest(units=units, words=words, row=row):
                        found = greedy(units, words, row)
                        self.assertEqual(found is not None, lies_within(units, row, free_row))
                        if found is None:
                            self.raises(NoRow, {}, words_behind, units, words, row)
                        else:
                            self.assertEqual(words_behind(units, words, row), found)
                            self.made_of_tuples(found)

    def test_which_words_are_taken_first_does_not_matter(self):
        for units in ((2, 2), (2, 3)):
            for words in apart_samples(units, 2):
                free_row = words_row(units, free_words(units, words))
                for row in rows_to(units, size_of(units, 0)):
                    self.assertEqual(can_be_told(units, words, row), lies_within(units, row, free_row))

    def test_scattered_free_words(self):
        # Least as tuples are words told, though a lesser piece is free behind them.
        self.assertEqual(words_behind((2, 2), ((0, 0),), (0, 0, 2)), ((0, 1), (1, 0)))
        self.assertEqual(words_behind((2, 2), ((1, 1),), (0, 0, 2)), ((0, 0), (0, 1)))
        self.assertEqual(words_behind((2, 2), ((1, 1),), (0, 1, 1)), ((0,), (1, 0)))
        self.raises(NoRow, {}, words_behind, (2, 2), ((0, 0), (1, 0)), (0, 1, 0))
        self.assertEqual(words_behind((2, 2), ((0, 0), (1, 0)), (0, 0, 2)), ((0, 1), (1, 1)))

    def test_sixty_and_more(self):
        # Five such words leave 5 first letters free, and behind each of theirs 9 second letters and 2 last ones.
        self.assertEqual(len(free_words((10, 10, 3), tuple((k, 0, 0) for k in range(5)))), 5 + 5 * 11)
        self.raises(TooGreat, {"most": 60}, free_words, (10, 10, 10), tuple((k, 0, 0) for k in range(3)))
        self.assertEqual(len(free_words((10, 10), tuple((k, 0) for k in range(6)))), 4 + 54)
        self.raises(TooGreat, {"most": 60}, free_words, (10, 10), tuple((k, 0) for k in range(7)))
        self.assertEqual(len(words_behind((10, 10), tuple((k, 0) for k in range(7)), (0, 0, 60))), 60)
        self.raises(TooGreat, {"most": 60}, words_behind, (10, 10), tuple((k, 0) for k in range(3)), (0, 0, 61))
        self.raises(NoRow, {}, words_behind, (10, 10), tuple((k, 0) for k in range(7)), (0, 0, 94))
        self.raises(TooGreat, {"most": 60}, words_behind, (10, 10), tuple((k, 0) for k in range(7)), (0, 0, 93))
        self.raises(NoRow, {}, words_behind, (10, 10), ((),), (0, 0, 10 ** 60))
        self.assertEqual(words_behind((10, 10), ((),), (0, 0, 0)), ())
        self.assertEqual(free_words((10, 10), ((),)), ())
        self.assertEqual(free_words((10, 10), ()), ((),))

    def test_words_that_clash(self):
        for words, pair in ((((0,), (0, 1)), (0, 1)), (((0, 1), (1,), (0,), ()), (0, 2)), (((), ()), (0, 1))):
            self.raises(Unlike, {"value": pair}, free_words, (2, 2), words)
            self.raises(Unlike, {"value": pair}, words_behind, (2, 2), words, (0, 0, 0))
            self.raises(Unlike, {"value": pair}, words_behind, (2, 2), words, (10 ** 60,) * 3)


class InOrder(YardCase):
    def test_example(self):
        self.assertEqual(order_end((2, 2), (2, 1)), 4)
        self.assertEqual(words_in_order((2, 2), (2, 1)), ((0, 0), (1,)))
        self.assertEqual(order_end((2, 2), (2, 1, 2)), 5)
        self.raises(NoRow, {}, words_in_order, (2, 2), (2, 1, 2))
        self.assertEqual(first_words((2, 2), (0, 1, 2)), ((0,), (1, 0), (1, 1)))

    def test_all_lengths(self):
        for units in ((), (2,), (3,), (2, 2), (2, 3), (2, 2, 2)):
            for many in range(5):
                for lengths in itertools.product(range(len(units) + 1), repeat=many):
                    with self.subTest(units=units, lengths=lengths):
                        self.check_lengths(units, lengths)

    def check_lengths(self, units, lengths):
        by_length = [[word for word in all_words(units) if len(word) == length] for length in lengths]
        good = [words for words in itertools.product(*by_length) if list(words) == sorted(words) and are_apart(*words)]
        end = order_end(units, lengths)
        self.assertEqual(bool(good), end <= size_of(units, 0))
        self.assertEqual(order_end(units, lengths[::-1]) <= size_of(units, 0), bool(good))
        if good:
            words = words_in_order(units, lengths)
            self.assertEqual(words, good[0])
            self.made_of_tuples(words)
            for place in range(len(words)):
                self.assertEqual(words[place], min(other[place] for other in good if other[:place] == words[:place]))
        else:
            self.raises(NoRow, {}, words_in_order, units, lengths)
        row = tuple(lengths.count(k) for k in range(len(units) + 1))
        if list(lengths) == sorted(lengths):
            self.assertEqual(end, total_of(units, row))

    def test_many_lengths(self):
        self.assertEqual(order_end((2, 2), (0,) * 60), 240)
        self.assertEqual(order_end((2, 2), (2, 0) * 30), 30 * 8)
        self.assertEqual(order_end((10, 10, 10), ()), 0)
        self.assertEqual(words_in_order((10, 10, 10), ()), ())
        self.assertEqual(words_in_order((10, 10, 10), (3,) * 60)[-1], (0, 5, 9))
        self.assertEqual(words_in_order((10, 10, 10), (3, 1, 2))[1:], ((1,), (2, 0)))
        self.assertEqual(order_end((10, 10, 10), (3, 1, 2)), 210)
        self.assertEqual(words_in_order((), (0,)), ((),))
        self.raises(NoRow, {}, words_in_order, (), (0, 0))


def readings(words, text):
    """All readings of a text."""
    if not text:
        return [()]
    return [(number, *reading) for number, word in enumerate(words) if begins(word, text)
            for reading in readings(words, text[len(word):])]


def plain_two_readings(ratio, words, most):
    """The least one of the shortest texts, of at most so many letters, with two readings; None if there is none."""
    for length in range(1, most + 1):
        for text in itertools.product(range(ratio), repeat=length):
            found = sorted(readings(words, text))
            if len(found) > 1:
                return (text, *found[:2])
    return None


class TwoReadings(YardCase):
    def test_example(self):
        found = ((0, 1, 0), (0, 2), (1, 0))
        words = ((0,), (0, 1), (1, 0))
        self.assertEqual(two_readings((2, 2), words), found)
        self.judges(is_two_readings, found, (2, 2), words)
        self.judges(is_two_readings, (found[0], found[2], found[1]), (2, 2), words)
        self.raises(NoRow, {}, two_readings, (2, 2), ((0,), (0, 1)))
        self.assertFalse(lies_within((2, 2), words_row((2, 2), words), (0, 2, 0)) and are_apart(*words))

    def check_words(self, units, words, most):
        plain = plain_two_readings(units[0], words, most)
        try:
            found = two_readings(units, words)
        except NoRow:
            self.assertIsNone(plain)
            return False
        self.made_of_tuples(found)
        self.assertIs(is_two_readings(units, words, found), True)
        if plain is None:
            self.assertGreater(len(found[0]), most)
        else:
            self.assertEqual(found, plain)
        return True

    def test_all_small_words(self):
        for units, most in (((2,), 3), ((2, 2), 4), ((3,), 3), ((2, 2, 2), 3)):
            told = [word for word in all_words(units) if word]
            for many in range(most + 1):
                for words in itertools.permutations(told[:7], many):
                    with self.subTest(units=units, words=words):
                        twofold = self.check_words(units, words, 7)
                        if are_apart(*words):
                            self.assertFalse(twofold)
                        if not lies_within(units, words_row(units, words), one_piece(units)):
                            self.assertTrue(twofold)

    def test_words_of_three_letters(self):
        told = [word for word in all_words((2, 2, 2)) if word]
        for words in list(itertools.combinations(told, 4))[::9] + list(itertools.combinations(told, 5))[::31]:
            with self.subTest(words=words):
                self.check_words((2, 2, 2), words, 8)
        told = [word for word in all_words((3, 3)) if word]
        for words in list(itertools.combinations(told[::-1], 5))[::23]:
            with self.subTest(words=words):
                self.check_words((3, 3), words, 6)

    def test_three_readings(self):
        units, words = (2, 2, 2), ((0, 1, 0), (0, 1), (1, 0), (0,))
        self.assertEqual(readings(words, (0, 1, 0)), [(0,), (1, 3), (3, 2)])
        self.assertEqual(two_readings(units, words), ((0, 1, 0), (0,), (1, 3)))
        self.assertEqual(two_readings(units, words[::-1]), ((0, 1, 0), (0, 1), (2, 0)))
        for one, other in itertools.permutations(readings(words, (0, 1, 0)), 2):
            self.assertIs(is_two_readings(units, words, ((0, 1, 0), one, other)), True)

    def test_long_texts(self):
        # The overhanging letters go through many states, until at last both readings end at once.
        words = ((0, 0, 1), (1, 0, 0), (0, 1, 0), (1,), (0, 0, 0))
        self.check_words((2, 2, 2), words, 9)
        ten = (10, 10, 10)
        many = tuple((k, 9, k) for k in range(9)) + tuple((9, k) for k in range(9)) + tuple((k,) for k in range(9))
        text, one, other = two_readings(ten, many)
        self.assertEqual(text, (0, 9, 0))
        self.assertEqual((one, other), ((0,), (18, 9)))
        sixty = tuple(word for word in all_words(ten) if len(word) == 3)[:60]
        self.raises(NoRow, {}, two_readings, ten, sixty)
        self.assertEqual(two_readings(ten, sixty[:59] + ((0,),))[0], (0, 0, 0))

    def test_papers(self):
        units, words = (2, 2), ((0,), (0, 1), (1, 0))
        text = (0, 1, 0)
        for value in ((text, (0, 2), (0, 2)), (text, (0, 2), (0, 1)), (text, (0, 2), (0,)), (text, (0, 2), (3, 0)),
                      (text, (0, 2), (0, -1)), ((), (), ()), ((0,), (0,), (0,)), (text[:2], (0, 2), (1, 0)),
                      ((0, 1, 2), (0, 2), (1, 0)), (text, (0, 2)), (text, (0, 2), (1, 0), ()), (text, (0, 2), (1, False))):
            self.assertIs(is_two_readings(units, words, value), False)
        long = (text * 50, (0, 2) * 50, (1, 0) * 50)
        self.assertIs(is_two_readings(units, words, long), True)
        self.assertIs(is_two_readings(units, words, (long[0], (1, 0, 0, 2) * 25, (0, 2, 1, 0) * 25)), True)
        self.assertIs(is_two_readings(units, words, (long[0] + (0,), *long[1:])), False)
        self.assertIs(is_two_readings(units, (), ((), (), ())), False)

    def test_wrong(self):
        for units in ((), (2, 3), (2, 2, 3), (3, 2, 2)):
            for words in ((), None, ((0,), None)):
                self.raises(Unlike, {"value": units}, two_readings, units, words)
                self.raises(Unlike, {"value": units}, is_two_readings, units, words, None)
        for units in ((2,), (2, 2), (3, 3, 3)):
            self.wrong_each(two_readings, ("code",), units, ())
            self.wrong_each(is_two_readings, ("code", None), units, (), None)
        self.assertTrue(list(wrong_code((2,))))
        self.raises(BadWords, {"place": (1,)}, two_readings, (2, 2), ((0,), (), (0,)))
        self.raises(BadWords, {"place": (2,)}, two_readings, (2, 2), ((0,), (1,), (0,), ()))
        self.raises(NoRow, {}, two_readings, (2, 2), ())


class Together(YardCase):
    def test_rows_side_by_side(self):
        """Behind first words just the rows within the rest are let, as these leave no free words scattered."""
        for units in ((2, 2), (2, 3), (2, 2, 2)):
            for row in rows_to(units, size_of(units, 0)):
                if lies_within(units, row, one_piece(units)):
                    words = first_words(units, row)
                    over = rest(units, one_piece(units), row)
                    self.assertEqual(stair_of(units, words_row(units, free_words(units, words))),
                                     stair_of(units, over))
                    more = words_behind(units, words, over)
                    self.assertTrue(are_apart(*words, *more))
                    self.assertEqual(words_row(units, words + more), add(row, over))


if __name__ == "__main__":
    unittest.main()
