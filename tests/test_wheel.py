"""Turns, wheels that are made and what is due at a tick: points 56 to 58."""

import itertools
import unittest

from stairyard.errors import BadWheel, NoRow, TooGreat, Unlike
from stairyard.rows import stair_of
from stairyard.stairs import rest
from stairyard.wheel import (
    dues_between, due_at, first_meeting, free_between, free_turns, is_wheel, need_wheel, next_free, wheel_behind,
    wheel_of, wheel_row)
from tests.tools import PAPERS, SMALL_UNITS, YardCase, lies_within, rows_to, size_of
from tests.wrong_shapes import wrong_wheel
from tests.wrongs import zero_row

FAR = 10 ** 60


def period(units, unit):
    made = 1
    for ratio in units[:unit]:
        made *= ratio
    return made


def all_turns(units):
    """All turns, ascending."""
    return [(unit, start) for unit in range(len(units) + 1) for start in range(period(units, unit))]


def due(units, turn, tick):
    unit, start = turn
    return tick >= start and (tick - start) % period(units, unit) == 0


def first_tick(units, one, other):
    """The first tick at which both turns are due, tick by tick; None if there is none."""
    for tick in range(2 * period(units, len(units))):
        if due(units, one, tick) and due(units, other, tick):
            return tick
    return None


def meets(units, one, other):
    return first_tick(units, one, other) is not None


def are_apart(units, *turns):
    return not any(meets(units, one, other) for one, other in itertools.combinations(turns, 2))


def one_piece(units):
    return (1,) + (0,) * len(units)


def greedy(units, wheel, row):
    """Further turns, each as early as all ahead let; None if there is none at last."""
    found = []
    for unit, many in enumerate(row):
        for _ in range(many):
            free = [turn for turn in all_turns(units) if turn[0] == unit
                    and not any(meets(units, turn, other) for other in (*wheel, *found))]
            if not free:
                return None
            found.append(free[0])
    return tuple(found)


def can_be_told(units, wheel, row):
    """Whether there are further turns with a row, in any way."""
    if not any(row):
        return True
    unit = min(k for k, many in enumerate(row) if many)
    less = row[:unit] + (row[unit] - 1,) + row[unit + 1:]
    return any(can_be_told(units, (*wheel, turn), less) for turn in all_turns(units)
               if turn[0] == unit and not any(meets(units, turn, other) for other in wheel))


def wheels(units, most):
    """Wheels of at most so many turns, in several orders."""
    for many in range(most + 1):
        for turns in itertools.combinations(all_turns(units), many):
            yield turns
            if many == 2:
                yield turns[::-1]
                yield turns[:1] * 2


def apart_wheels(units, most):
    return [wheel for wheel in wheels(units, most) if are_apart(units, *wheel)]


class Wheels(YardCase):
    def test_all_turns(self):
        for units in SMALL_UNITS:
            wheel = tuple(all_turns(units))
            self.assertEqual(need_wheel(units, wheel), wheel)
            self.made_of_tuples(need_wheel(units, wheel))
            self.assertEqual(wheel_row(units, wheel), tuple(period(units, k) for k in range(len(units) + 1)))
            self.assertEqual(need_wheel(units, ()), ())
        self.assertEqual(need_wheel((10, 10, 10), ((3, 999),) * 60), ((3, 999),) * 60)
        self.assertEqual(wheel_row((), ((0, 0),) * 60), (60,))
        self.assertEqual(wheel_row((2, 3), ((2, 5), (1, 0), (2, 1), (2, 5))), (0, 1, 3))

    def test_periods_go_by_the_first_ratios(self):
        self.assertEqual(need_wheel((2, 3), ((1, 1), (2, 5))), ((1, 1), (2, 5)))
        self.raises(BadWheel, {"place": (0,)}, need_wheel, (2, 3), ((1, 2),))
        self.raises(BadWheel, {"place": (1,)}, need_wheel, (2, 3), ((0, 0), (2, 6)))
        self.assertEqual(need_wheel((3, 2), ((1, 2),)), ((1, 2),))

    def test_meetings(self):
        for units in ((), (2,), (3,), (2, 3), (3, 2), (2, 2, 2)):
            for wheel in wheels(units, 3 if len(all_turns(units)) < 9 else 2):
                ticks = [tick for tick in range(period(units, len(units)))
                         if sum(due(units, turn, tick) for turn in wheel) > 1]
                with self.subTest(units=units, wheel=wheel):
                    if ticks:
                        numbers = [number for number, turn in enumerate(wheel) if due(units, turn, ticks[0])]
                        self.assertEqual(first_meeting(units, wheel), (ticks[0], *numbers[:2]))
                    else:
                        self.raises(NoRow, {}, first_meeting, units, wheel)
                        self.assertTrue(lies_within(units, wheel_row(units, wheel), one_piece(units)))

    def test_two_turns_meet_where_the_shorter_period_divides(self):
        for units in ((2, 3), (3, 2), (2, 2, 2)):
            for (k, s), (l, r) in itertools.product(all_turns(units), repeat=2):
                if k <= l:
                    tick = first_tick(units, (k, s), (l, r))
                    self.assertEqual(tick, r if (r - s) % period(units, k) == 0 else None)

    def test_first_of_several_meetings(self):
        self.assertEqual(first_meeting((2, 3), ((2, 3), (2, 2), (1, 0), (1, 1))), (2, 1, 2))
        self.assertEqual(first_meeting((2, 3), ((2, 3), (2, 2), (1, 1), (1, 0), (2, 0))), (0, 3, 4))
        self.assertEqual(first_meeting((10, 10, 10), ((3, 999), (2, 99), (1, 3))), (999, 0, 1))
        self.assertEqual(first_meeting((), ((0, 0), (0, 0), (0, 0))), (0, 0, 1))
        self.raises(NoRow, {}, first_meeting, (), ((0, 0),))

    def test_wrong(self):
        for units in ((), (2,), (2, 3), (10, 10, 10)):
            row = zero_row(units)
            for function in (need_wheel, wheel_row, first_meeting):
                self.wrong_each(function, ("wheel",), units, ())
            self.wrong_each(free_turns, ("wheel",), units, ((0, 0),) * 2)
            self.wrong_each(wheel_behind, ("wheel", "row"), units, ((0, 0),) * 2, row)
            self.wrong_each(wheel_of, ("row",), units, (2,) + row[1:])
            self.wrong_each(is_wheel, ("row", None), units, row, None)
            self.wrong_each(due_at, ("wheel", "tick"), units, (), 0)
            self.wrong_each(next_free, ("wheel", "tick"), units, ((0, 0),), 0)
            self.wrong_each(dues_between, ("wheel", "tick", "tick"), units, (), 0, 0)
            self.wrong_each(free_between, ("wheel", "tick", "tick"), units, (), 0, 0)
        self.assertTrue(list(wrong_wheel(())))


class Made(YardCase):
    def test_example(self):
        self.assertEqual(wheel_of((2, 3), (0, 1, 2)), ((1, 0), (2, 1), (2, 3)))
        self.assertEqual(free_turns((2, 3), ((1, 0), (2, 1), (2, 3))), ((2, 5),))

    def test_all_rows(self):
        for units in SMALL_UNITS:
            for row in rows_to(units, size_of(units, 0) + 1):
                with self.subTest(units=units, row=row):
                    wheel = greedy(units, (), row)
                    self.assertEqual(wheel is not None, lies_within(units, row, one_piece(units)))
                    if wheel is None:
                        limit = stair_of(units, one_piece(units))
                        full = [k for k, number in enumerate(stair_of(units, row)) if number > limit[k]]
                        self.raises(Unlike, {"value": full[0]}, wheel_of, units, row)
                    else:
                        self.assertEqual(wheel_of(units, row), wheel)
                        self.made_of_tuples(wheel_of(units, row))
                        self.assertIs(is_wheel(units, row, wheel), True)

    def test_early_turns_are_not_those_of_first_words(self):
        self.assertEqual(wheel_of((2, 2), (0, 0, 2)), ((2, 0), (2, 1)))
        self.assertEqual(wheel_of((2, 2), (0, 0, 4)), ((2, 0), (2, 1), (2, 2), (2, 3)))
        self.assertEqual(wheel_of((3, 3), (0, 1, 4)), ((1, 0), (2, 1), (2, 2), (2, 4), (2, 5)))

    def test_free_turns(self):
        for units in ((), (2,), (3,), (2, 3), (3, 2), (2, 2, 2)):
            for wheel in apart_wheels(units, 3 if len(units) < 3 else 2):
                free = []
                for unit, start in all_turns(units):
                    above = (unit - 1, start % period(units, unit - 1)) if unit else None
                    if not any(meets(units, (unit, start), turn) for turn in wheel):
                        if above is None or any(meets(units, above, turn) for turn in wheel):
                            free.append((unit, start))
                with self.subTest(units=units, wheel=wheel):
                    self.assertEqual(free_turns(units, wheel), tuple(free))
                    self.made_of_tuples(free_turns(units, wheel))
                    ticks = [tick for tick in range(period(units, len(units)))
                             if not any(due(units, turn, tick) for turn in wheel)]
                    held = [tick for tick in range(period(units, len(units))) if any(due(units, t, tick) for t in free)]
                    self.assertEqual(held, ticks)

    def test_turns_behind_are_the_earliest_ones(self):
        for units in ((), (2,), (3,), (2, 3), (3, 2), (2, 2, 2)):
            for wheel in apart_wheels(units, 2 if len(units) < 3 else 1):
                free_row = wheel_row(units, free_turns(units, wheel))
                for row in rows_to(units, min(size_of(units, 0) + 1, 7)):
                    with self.subTest(units=units, wheel=wheel, row=row):
                        found = greedy(units, wheel, row)
                        self.assertEqual(found is not None, lies_within(units, row, free_row))
                        if found is None:
                            self.raises(NoRow, {}, wheel_behind, units, wheel, row)
                        else:
                            self.assertEqual(wheel_behind(units, wheel, row), found)
                            self.made_of_tuples(found)

    def test_which_turns_are_taken_first_does_not_matter(self):
        for units in ((2, 2), (2, 3)):
            for wheel in apart_wheels(units, 2):
                free_row = wheel_row(units, free_turns(units, wheel))
                self.assertTrue(lies_within(units, free_row, rest(units, one_piece(units), wheel_row(units, wheel))))
                for row in rows_to(units, size_of(units, 0)):
                    self.assertEqual(can_be_told(units, wheel, row), lies_within(units, row, free_row))

    def test_sixty_and_more(self):
        units = (10, 10, 10)
        self.assertEqual(wheel_of(units, (0, 0, 60, 0)), tuple((2, start) for start in range(60)))
        self.raises(TooGreat, {"most": 60}, wheel_of, units, (0, 0, 61, 0))
        self.raises(Unlike, {"value": 2}, wheel_of, units, (0, 0, 101, 0))
        self.raises(Unlike, {"value": 0}, wheel_of, units, (10 ** 60,) * 4)
        self.raises(Unlike, {"value": 3}, wheel_of, units, (0, 0, 100, 1))
        self.assertEqual(wheel_of(units, (0, 0, 0, 0)), ())
        self.assertEqual(wheel_of(units, (1, 0, 0, 0)), ((0, 0),))
        self.assertEqual(len(wheel_behind(units, ((1, 0),), (0, 0, 60, 0))), 60)
        self.raises(TooGreat, {"most": 60}, wheel_behind, units, ((1, 0),), (0, 0, 61, 0))
        self.raises(TooGreat, {"most": 60}, wheel_behind, units, ((1, 0),), (0, 0, 90, 0))
        self.raises(NoRow, {}, wheel_behind, units, ((1, 0),), (0, 0, 91, 0))
        self.raises(NoRow, {}, wheel_behind, units, ((0, 0),), (0, 0, 0, 10 ** 60))
        self.assertEqual(wheel_behind(units, ((0, 0),), (0, 0, 0, 0)), ())
        self.assertEqual(len(free_turns((10, 10, 3), tuple((3, start) for start in range(5)))), 5 + 5 * 11)
        self.raises(TooGreat, {"most": 60}, free_turns, units, tuple((3, start) for start in range(3)))
        self.assertEqual(free_turns(units, ()), ((0, 0),))
        self.assertEqual(free_turns(units, ((0, 0),)), ())

    def test_turns_that_meet(self):
        for wheel, tick in ((((1, 0), (2, 2)), 2), (((2, 5), (2, 4), (1, 1), (0, 0)), 1), (((0, 0),) * 60, 0)):
            self.raises(Unlike, {"value": tick}, free_turns, (2, 3), wheel)
            self.raises(Unlike, {"value": tick}, wheel_behind, (2, 3), wheel, (0, 0, 0))
            self.raises(Unlike, {"value": tick}, wheel_behind, (2, 3), wheel, (FAR, FAR, FAR))

    def test_papers(self):
        for units in ((), (2,), (2, 3)):
            for row in rows_to(units, 4):
                for value in PAPERS:
                    good = value == () and not any(row)
                    self.assertIs(is_wheel(units, row, value), good)
        self.judges(is_wheel, ((2, 3), (1, 0), (2, 5)), (2, 3), (0, 1, 2))
        for wheel in wheels((2, 2), 3):
            row = wheel_row((2, 2), wheel)
            self.assertIs(is_wheel((2, 2), row, wheel), are_apart((2, 2), *wheel))
            self.assertIs(is_wheel((2, 2), (row[0], row[1], row[2] + 1), wheel), False)
        sixty = tuple((2, start) for start in range(60))
        self.assertIs(is_wheel((10, 10), (0, 0, 60), sixty), True)
        self.assertIs(is_wheel((10, 10), (0, 0, 61), (*sixty, (2, 60))), False)


class AtATick(YardCase):
    def test_tick_by_tick(self):
        for units in ((), (2,), (3,), (2, 3), (3, 2), (2, 2, 2)):
            whole = period(units, len(units))
            for wheel in wheels(units, 3 if len(all_turns(units)) < 9 else 2):
                ticks = range(3 * whole)
                dues = [tuple(n for n, turn in enumerate(wheel) if due(units, turn, tick)) for tick in ticks]
                with self.subTest(units=units, wheel=wheel):
                    for tick in ticks[:2 * whole]:
                        self.assertEqual(due_at(units, wheel, tick), dues[tick])
                        self.made_of_tuples(due_at(units, wheel, tick))
                        later = [other for other in ticks if other >= tick and not dues[other]]
                        if later:
                            self.assertEqual(next_free(units, wheel, tick), later[0])
                        else:
                            self.raises(NoRow, {}, next_free, units, wheel, tick)
                    self.check_spans(units, wheel, dues, whole)

    def check_spans(self, units, wheel, dues, whole):
        for begin, end in itertools.product((0, 1, whole - 1, whole, whole + 1), (0, 1, 2, whole + 2, 3 * whole)):
            between = dues[begin:end]
            told = tuple(sum(number in due for due in between) for number in range(len(wheel)))
            free = sum(not due for due in between)
            self.assertEqual(dues_between(units, wheel, begin, end), told)
            self.assertEqual(free_between(units, wheel, begin, end), free)
            if are_apart(units, *wheel):
                self.assertEqual(sum(told) + free, max(0, end - begin))

    def test_example(self):
        wheel = ((1, 0), (2, 1), (2, 3))
        self.assertEqual([due_at((2, 3), wheel, tick) for tick in range(7)], [(0,), (1,), (0,), (2,), (0,), (), (0,)])
        self.assertEqual(next_free((2, 3), wheel, 0), 5)
        self.assertEqual(next_free((2, 3), wheel, 5), 5)
        self.assertEqual(next_free((2, 3), wheel, 6), 11)
        self.assertEqual(dues_between((2, 3), wheel, 0, 12), (6, 2, 2))
        self.assertEqual(free_between((2, 3), wheel, 0, 12), 2)
        self.assertEqual(due_at((2, 3), ((1, 1), (0, 0), (1, 1)), 7), (0, 1, 2))

    def test_far_ticks(self):
        units = (10, 10, 10)
        wheel = ((3, 0), (3, 999), (2, 7))
        self.assertEqual(due_at(units, wheel, FAR), (0,))
        self.assertEqual(due_at(units, wheel, FAR - 1), (1,))
        self.assertEqual(due_at(units, wheel, FAR - 93), (2,))
        self.assertEqual(next_free(units, wheel, FAR), FAR + 1)
        self.assertEqual(next_free(units, wheel, FAR - 1), FAR + 1)
        busy = ((1, 0), (1, 1), (1, 2), (1, 3), (1, 4), (1, 5), (1, 6), (1, 7), (1, 8))
        self.assertEqual(next_free(units, busy, FAR), FAR + 9)
        self.raises(NoRow, {}, next_free, units, (*busy, (1, 9)), FAR)
        self.raises(NoRow, {}, next_free, units, ((0, 0),), FAR)
        # All ticks but the last one of a thousand are due.
        nearly = (*busy, *[(2, 9 + 10 * k) for k in range(9)], *[(3, 99 + 100 * k) for k in range(9)])
        self.assertEqual(next_free(units, nearly, FAR), FAR + 999)
        self.assertEqual(next_free(units, nearly, FAR - 1), FAR - 1)
        self.assertEqual(free_between(units, nearly, 0, FAR), FAR // 1000)
        self.assertEqual(dues_between(units, wheel, 0, FAR), (FAR // 1000, FAR // 1000, FAR // 100))
        self.assertEqual(dues_between(units, wheel, 1, FAR), (FAR // 1000 - 1, FAR // 1000, FAR // 100))
        self.assertEqual(free_between(units, wheel, 0, FAR), FAR - 12 * (FAR // 1000))
        for begin, end in ((FAR, FAR), (FAR, 0), (5, 4), (1, 0), (0, 0)):
            self.assertEqual(dues_between(units, wheel, begin, end), (0, 0, 0))
            self.assertEqual(free_between(units, wheel, begin, end), 0)
        self.assertEqual(free_between(units, (), 3, FAR), FAR - 3)
        self.assertEqual(dues_between(units, (), 3, FAR), ())


if __name__ == "__main__":
    unittest.main()
