"""Joinings of the things of a row, and of things that are ready at told ticks: points 62 and 63."""

import itertools
import unittest

from stairyard.errors import BadJoins, BadParameter, NoRow, TooGreat, Unlike
from stairyard.joining import (
    fewest_left, is_joins, is_joins_by, joins_by, joins_of, latest_more, least_end, need_joins)
from stairyard.rows import stair_of
from tests.tools import PAPERS, SMALL_UNITS, YardCase, add, lies_within, rows_to, size_of, swapped, total_of
from tests.wrong_shapes import wrong_joins
from tests.wrongs import zero_row

FAR = 10 ** 60


def thing(number):
    return ("thing", number)


def join(*subs):
    return ("join", subs)


def one_piece(units):
    return (1,) + (0,) * len(units)


def shapes(units):
    """All joinings of things that are not numbered yet."""
    found = [thing(None)]
    if units:
        below = shapes(units[1:])
        for many in range(1, units[0] + 1):
            found += [join(*subs) for subs in itertools.product(below, repeat=many)]
    return found


def numbered(joins, numbers):
    """The joining with these numbers, from the left."""
    if joins[0] == "thing":
        return thing(next(numbers))
    return join(*[numbered(sub, numbers) for sub in joins[1]])


def comes_up(joins, unit=0):
    """The pairs of the number and of the unit of each thing, from the left."""
    if joins[0] == "thing":
        return [(joins[1], unit)]
    return [pair for sub in joins[1] for pair in comes_up(sub, unit + 1)]


def counts_at(units, row):
    """For each unit, from the greatest number on, all counts of things that there can be, tick by tick."""
    counts = {row[-1]}
    told = [counts]
    for unit in reversed(range(len(units))):
        made = set()
        for count in counts:
            # Each new thing is made of one or more, of at most so many as the ratio.
            made |= {many for many in range(count + 1) if many <= count <= many * units[unit]}
        counts = {many + row[unit] for many in made}
        told.append(counts)
    return told[::-1]


def can_join(units, row):
    return 1 in counts_at(units, row)[0]


def filled(units, things):
    """The joining as the document tells it; `things` are pairs of a unit and a number, in their order."""
    words = []
    for unit, number in things:
        places = [word for word in itertools.product(*map(range, units[:unit])) if all(
            word[:len(other)] != other for other, _ in words)]
        words.append((places[0], number))

    def grow(begun):
        for word, number in words:
            if word == begun:
                return thing(number)
        subs = [(*begun, side) for side in range(units[len(begun)])]
        return join(*[grow(sub) for sub in subs if any(word[:len(sub)] == sub for word, _ in words)])
    return grow(())


def things_of_row(row):
    units = [unit for unit, many in enumerate(row) for _ in range(many)]
    return [(unit, number) for number, unit in enumerate(units)]


def row_at(units, ready, end):
    """The row of things that come up as early as they can."""
    at = [min(len(units), end - tick) for tick in ready]
    return tuple(at.count(unit) for unit in range(len(units) + 1))


def joined_by(units, ready, end):
    """Whether things can be joined to one by an end, each coming up at any K at which it can: all ways are tried."""
    ways = [range(min(len(units), end - tick) + 1) for tick in ready]
    return any(can_join(units, tuple(at.count(unit) for unit in range(len(units) + 1)))
               for at in itertools.product(*ways))


class Joinings(YardCase):
    def test_all_small_ones(self):
        for units in ((), (2,), (3,), (2, 2), (2, 3)):
            for shape in shapes(units):
                joins = numbered(shape, iter(range(60)))
                self.assertEqual(need_joins(units, joins), joins)
                self.made_of_tuples(need_joins(units, joins))

    def test_edges(self):
        self.assertEqual(need_joins((), thing(59)), thing(59))
        self.assertEqual(need_joins((2, 3), join(join(thing(4)))), join(join(thing(4))))
        self.assertEqual(need_joins((2,), join(thing(7), thing(7))), join(thing(7), thing(7)))
        self.raises(BadJoins, {"path": ()}, need_joins, (2,), thing(60))
        self.raises(BadJoins, {"path": ()}, need_joins, (), join(thing(0)))
        self.raises(BadJoins, {"path": ()}, need_joins, (2,), join(thing(0), thing(1), thing(2)))
        self.raises(BadJoins, {"path": ()}, need_joins, (2,), ("join", ()))
        self.raises(BadJoins, {"path": (1, 1)}, need_joins, (2,), join(thing(0), join(thing(1))))
        self.raises(BadJoins, {"path": (1, 1, 1, 0)}, need_joins, (2, 3), join(thing(0), join(thing(60), None)))
        self.raises(BadJoins, {"path": (1, 0)}, need_joins, (2, 3), join(join(*[thing(0)] * 4), None))

    def test_four_hundred_parts(self):
        units = (10, 10, 10)
        for many, parts in ((289, 400), (290, 401)):
            subs = [join(*[thing(0)] * min(10, many - at)) for at in range(0, many, 10)]
            subs += [thing(1)] * (100 - len(subs))
            joins = join(*[join(*subs[at:at + 10]) for at in range(0, 100, 10)])
            self.assertEqual(len(comes_up(joins)) + 11 + -(-many // 10), parts)
            if parts == 400:
                self.assertEqual(need_joins(units, joins), joins)
                self.raises(BadJoins, {"path": (1, 9, 1, 9)}, need_joins, units, swapped_last(joins))
            else:
                self.raises(TooGreat, {"most": 400}, need_joins, units, joins)
                self.raises(TooGreat, {"most": 400}, need_joins, units, swapped_last(joins))
                self.assertIs(is_joins(units, (0, 0, 71, 290), joins), False)

    def test_wrong(self):
        for units in ((), (2,), (2, 3), (3, 2, 2)):
            row = zero_row(units)
            self.wrong_each(need_joins, ("joins",), units, thing(0))
            self.wrong_each(joins_of, ("row",), units, row)
            self.wrong_each(is_joins, ("row", None), units, row, None)
            self.wrong_each(fewest_left, ("row",), units, row)
            self.wrong_each(latest_more, ("row",), units, one_piece(units))
            self.wrong_each(least_end, ("ready",), units, (0,) * 60)
            self.wrong_each(joins_by, ("ready", "end"), units, (1,), 0)
            self.wrong_each(is_joins_by, ("ready", "end", None), units, (1,), 0, None)
        self.assertTrue(list(wrong_joins(())))


def swapped_last(joins):
    """The joining with something in the place of its last part."""
    if joins[0] == "thing":
        return None
    return (joins[0], joins[1][:-1] + (swapped_last(joins[1][-1]),))


class OfARow(YardCase):
    def test_example(self):
        joins = join(thing(0), join(thing(1), thing(2)))
        self.assertEqual(joins_of((2, 3), (0, 1, 2)), joins)
        self.judges(is_joins, joins, (2, 3), (0, 1, 2))
        self.assertEqual(fewest_left((2, 3), (0, 1, 2)), (1, 2, 2))
        self.assertEqual(latest_more((2, 3), (0, 1, 2)), 2)

    def test_all_rows(self):
        for units in SMALL_UNITS:
            for row in rows_to(units, size_of(units, 0) + 2):
                with self.subTest(units=units, row=row):
                    self.check_row(units, row)

    def check_row(self, units, row):
        counts = counts_at(units, row)
        self.assertEqual(fewest_left(units, row), tuple(map(min, counts)))
        self.made_of_tuples(fewest_left(units, row))
        fits = lies_within(units, row, one_piece(units))
        self.assertEqual(fewest_left(units, row)[0], -(-total_of(units, row) // size_of(units, 0)))
        self.assertEqual(1 in counts[0], fits and any(row))
        if not any(row):
            self.raises(NoRow, {}, joins_of, units, row)
        elif fits:
            joins = joins_of(units, row)
            self.assertEqual(joins, filled(units, things_of_row(row)))
            self.assertIs(is_joins(units, row, joins), True)
            self.made_of_tuples(joins)
        more = [unit for unit in range(len(row)) if can_join(units, add(row, swapped(zero_row(units), unit, 1)))]
        if not fits:
            limit, stair = stair_of(units, one_piece(units)), stair_of(units, row)
            told = {"value": [k for k, number in enumerate(stair) if number > limit[k]][0]}
            self.raises(Unlike, told, joins_of, units, row)
            self.raises(Unlike, told, latest_more, units, row)
        elif more:
            self.assertEqual(latest_more(units, row), more[0])
        else:
            self.raises(NoRow, {}, latest_more, units, row)

    def test_numbers_and_places(self):
        self.assertEqual(joins_of((2, 2), (0, 0, 1)), join(join(thing(0))))
        self.assertEqual(joins_of((2, 2), (1, 0, 0)), thing(0))
        self.assertEqual(joins_of((2, 2), (0, 0, 3)), join(join(thing(0), thing(1)), join(thing(2))))
        self.assertEqual(joins_of((3, 2), (0, 1, 3)), join(thing(0), join(thing(1), thing(2)), join(thing(3))))

    def test_great_rows(self):
        units = (10, 10, 10)
        self.assertEqual(fewest_left(units, (FAR,) * 4), (
            FAR + (FAR + (FAR + FAR // 10) // 10) // 10, FAR + (FAR + FAR // 10) // 10, FAR + FAR // 10, FAR))
        self.assertEqual(fewest_left(units, (0, 0, 0, 1)), (1, 1, 1, 1))
        self.assertEqual(fewest_left(units, (0, 0, 0, 0)), (0, 0, 0, 0))
        self.assertEqual(fewest_left(units, (0, 0, 0, 1001)), (2, 11, 101, 1001))
        self.assertEqual(len(comes_up(joins_of(units, (0, 0, 0, 60)))), 60)
        self.raises(TooGreat, {"most": 60}, joins_of, units, (0, 0, 0, 61))
        self.raises(TooGreat, {"most": 60}, joins_of, units, (0, 0, 0, 1000))
        self.raises(Unlike, {"value": 3}, joins_of, units, (0, 0, 0, 1001))
        self.raises(Unlike, {"value": 0}, joins_of, units, (2, 0, 0, 1001))
        self.raises(Unlike, {"value": 3}, latest_more, units, (1, 0, 0, 1))
        self.raises(NoRow, {}, latest_more, units, (0, 0, 0, 1000))
        self.assertEqual(latest_more(units, (0, 0, 0, 999)), 3)
        self.assertEqual(latest_more(units, (0, 0, 0, 990)), 2)
        self.assertEqual(latest_more(units, (0, 0, 0, 991)), 3)
        self.assertEqual(latest_more(units, (0, 9, 0, 0)), 1)
        self.assertEqual(latest_more(units, (0, 0, 0, 0)), 0)
        self.raises(NoRow, {}, latest_more, (), (1,))
        self.assertEqual(latest_more((), (0,)), 0)

    def test_papers(self):
        for units in ((), (2,), (3,), (2, 2)):
            rows = [row for row in rows_to(units, 4)]
            for shape in shapes(units):
                many = len(comes_up(shape))
                for numbers in itertools.permutations(range(many + 1), many) if many < 4 else [range(many)]:
                    joins = numbered(shape, iter(numbers))
                    for row in rows[::1 if many < 3 else 4]:
                        good = sorted((unit, number) for number, unit in comes_up(joins)) == things_of_row(row)
                        self.assertIs(is_joins(units, row, joins), good)
        for units in ((), (2, 3)):
            for row in rows_to(units, 3):
                for value in PAPERS:
                    self.assertIs(is_joins(units, row, value), False)
        self.assertIs(is_joins((2,), (0, 2), join(thing(0), thing(0))), False)
        self.assertIs(is_joins((2,), (0, 2), join(thing(1), thing(0))), True)
        self.assertIs(is_joins((2, 2), (0, 1, 1), join(join(thing(1)), thing(0))), True)
        self.assertIs(is_joins((2, 2), (0, 1, 1), join(join(thing(0)), thing(1))), False)
        self.assertIs(is_joins((2, 2), (0, 0, FAR), thing(0)), False)


class ReadyTimes(YardCase):
    def test_example(self):
        self.assertEqual(least_end((2, 2), (0, 0, 1)), 2)
        self.assertEqual(joins_by((2, 2), (0, 0, 1), 2), join(thing(2), join(thing(0), thing(1))))
        self.assertEqual(least_end((2, 2), (0, 1, 1)), 3)
        self.judges(is_joins_by, joins_by((2, 2), (0, 0, 1), 2), (2, 2), (0, 0, 1), 2)
        self.assertEqual(row_at((2, 2), (0, 1, 1), 2), (0, 2, 1))

    def test_all_ready_times(self):
        for units, most in (((), 2), ((2,), 3), ((3,), 3), ((2, 2), 3), ((2, 3), 2), ((2, 2, 2), 2)):
            for many in range(1, 5):
                for ready in itertools.combinations_with_replacement(range(most + 1), many):
                    for told in {ready, ready[::-1], ready[1:] + ready[:1]}:
                        with self.subTest(units=units, ready=told):
                            self.check_ready(units, told)

    def check_ready(self, units, ready):
        ends = [end for end in range(max(ready) + len(units) + 2)
                if max(ready) <= end and joined_by(units, ready, end)]
        if ends:
            self.assertEqual(least_end(units, ready), ends[0])
            self.assertEqual(ends, list(range(ends[0], max(ready) + len(units) + 2)))
            self.assertLessEqual(ends[0], max(ready) + len(units))
        else:
            self.raises(NoRow, {}, least_end, units, ready)
        self.assertEqual(bool(ends), len(ready) <= size_of(units, 0))
        for end in range(max(ready) + len(units) + 2):
            if end in ends:
                joins = joins_by(units, ready, end)
                things = sorted((min(len(units), end - tick), number) for number, tick in enumerate(ready))
                self.assertEqual(joins, filled(units, things))
                self.assertIs(is_joins_by(units, ready, end, joins), True)
            else:
                self.raises(NoRow, {}, joins_by, units, ready, end)

    def test_papers(self):
        for units, ready in (((2,), (0, 1)), ((2, 2), (0, 1, 1)), ((3,), (2, 0)), ((2, 2), (0,)), ((), (3,))):
            for shape in shapes(units):
                many = len(comes_up(shape))
                for numbers in itertools.permutations(range(4), many) if many < 4 else [range(many)]:
                    joins = numbered(shape, iter(numbers))
                    for end in range(6):
                        ups = sorted(comes_up(joins))
                        good = [number for number, _ in ups] == list(range(len(ready)))
                        good = good and all(tick <= end - unit for tick, (_, unit) in zip(ready, ups))
                        self.assertIs(is_joins_by(units, ready, end, joins), good)
            for value in PAPERS:
                self.assertIs(is_joins_by(units, ready, 5, value), False)
        # It may wait: a thing comes up later than it could.
        self.assertIs(is_joins_by((2, 2), (0, 0), 9, join(thing(1), join(thing(0)))), True)
        self.assertIs(is_joins_by((2, 2), (0, 0), 1, join(thing(1), join(thing(0)))), False)
        self.assertIs(is_joins_by((2, 2), (0, 0), 9, join(thing(1), thing(1))), False)
        self.assertIs(is_joins_by((2, 2), (0, 0), 9, join(thing(0), thing(1), )), True)
        self.assertIs(is_joins_by((2, 2), (0, 0), 9, thing(0)), False)

    def test_far_ticks(self):
        units = (2, 2, 2)
        self.assertEqual(least_end(units, (FAR,)), FAR)
        self.assertEqual(least_end(units, (FAR,) * 2), FAR + 1)
        self.assertEqual(least_end(units, (FAR,) * 8), FAR + 3)
        self.assertEqual(least_end(units, (FAR,) + (0,) * 7), FAR + 3)
        self.assertEqual(least_end(units, (FAR,) + (0,) * 4), FAR + 1)
        self.assertEqual(joins_by(units, (FAR,), FAR), thing(0))
        self.assertEqual(joins_by(units, (FAR,) * 2, FAR + 1), join(thing(0), thing(1)))
        self.assertEqual(joins_by(units, (FAR, FAR), FAR + 3), join(join(join(thing(0), thing(1)))))
        self.assertEqual(len(comes_up(joins_by(units, (FAR,) * 8, FAR + 3))), 8)
        self.raises(BadParameter, {"value": FAR + 4}, joins_by, units, (FAR,), FAR + 4)
        self.raises(BadParameter, {"value": FAR + 4}, is_joins_by, units, (FAR,), FAR + 4, thing(0))
        self.raises(NoRow, {}, joins_by, units, (FAR,), FAR - 1)
        self.raises(NoRow, {}, joins_by, units, (FAR, 0), FAR - 1)
        self.raises(NoRow, {}, joins_by, units, (FAR,) * 2, FAR)
        self.assertEqual(joins_by((), (5,), 9), thing(0))

    def test_as_many_as_the_whole_and_one_more(self):
        for units in ((), (2,), (3, 2), (2, 2, 2)):
            whole = size_of(units, 0)
            self.assertEqual(least_end(units, (4,) * whole), 4 + len(units))
            self.raises(NoRow, {}, least_end, units, (4,) * (whole + 1))
            self.raises(NoRow, {}, least_end, units, (0,) * whole + (9,))
            self.assertEqual(len(comes_up(joins_by(units, (4,) * whole, 9))), whole)
            self.raises(NoRow, {}, joins_by, units, (4,) * (whole + 1), 9)
        self.assertEqual(least_end((10, 10), (0,) * 60), 2)
        self.assertEqual(len(comes_up(joins_by((10, 10), (0,) * 60, 2))), 60)


if __name__ == "__main__":
    unittest.main()
