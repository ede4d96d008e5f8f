"""Steps between rows: points 9, 15 and 16."""

import unittest

from stairyard.between import stepped, steps_apart, steps_between
from stairyard.errors import BadSteps, TooGreat, Unlike
from tests.tools import (
    SMALL_UNITS, YardCase, plain_stair, product_of, rows_of_total, single_cuts, single_joins, total_of,
    units_with_rows)

MOST = 10 ** 60


def next_rows(units, row):
    """The pairs of a step and the row behind it, the least step first."""
    cuts = [(("cut", unit), behind) for unit, behind in single_cuts(units, row)]
    return cuts + [(("join", unit), behind) for unit, behind in single_joins(units, row)]


def steps_from(units, start):
    """For each row to which steps lead: the least ones of the fewest steps."""
    found = {start: ()}
    rim = [start]
    while rim:
        further = {}
        for row in rim:
            for step, behind in next_rows(units, row):
                steps = found[row] + (step,)
                if behind not in found and (behind not in further or steps < further[behind]):
                    further[behind] = steps
        found.update(further)
        rim = list(further)
    return found


class Stepped(YardCase):
    def test_no_steps(self):
        for units, rows in units_with_rows(4):
            for row in rows:
                self.assertEqual(stepped(units, row, ()), row)

    def test_single_steps(self):
        for units, rows in units_with_rows(8):
            for row in rows:
                behind = dict(next_rows(units, row))
                for step in product_of(("cut", "join"), range(len(units))):
                    if step in behind:
                        self.assertEqual(stepped(units, row, (step,)), behind[step])
                        self.made_of_tuples(stepped(units, row, (step,)))
                    else:
                        self.raises(BadSteps, {"place": (0,)}, stepped, units, row, (step,))

    def test_several_steps(self):
        steps = (("cut", 0), ("cut", 1), ("cut", 1))
        self.assertEqual(stepped((2, 3), (1, 0, 0), steps), (0, 0, 6))
        back = (("join", 1), ("join", 1), ("join", 0))
        self.assertEqual(stepped((2, 3), (1, 0, 0), steps + back), (1, 0, 0))

    def test_forms_are_looked_at_ahead_of_pieces(self):
        steps = (("cut", 0), ("cut", 0), ("join", 1))
        self.raises(BadSteps, {"place": (2,)}, stepped, (2,), (1, 0), steps)
        self.raises(BadSteps, {"place": (1,)}, stepped, (2,), (1, 0), steps[:2])
        self.raises(BadSteps, {"place": (1,)}, stepped, (2,), (0, 3), (("join", 0), ("join", 0)))

    def test_sixty_and_sixty_one(self):
        there_and_back = (("cut", 0), ("join", 0)) * 30
        self.assertEqual(stepped((2,), (1, 0), there_and_back), (1, 0))
        self.raises(TooGreat, {"most": 60}, stepped, (2,), (1, 0), there_and_back + (("cut", 0),))
        self.raises(TooGreat, {"most": 60}, stepped, (2,), (0, 0), (("cut", 0),) * 61)
        self.raises(BadSteps, {"place": (0,)}, stepped, (2,), (0, 0), (("cut", 0),) * 60)

    def test_no_step_without_ratio(self):
        self.raises(BadSteps, {"place": (0,)}, stepped, (), (5,), (("cut", 0),))

    def test_great_numbers(self):
        self.assertEqual(stepped((2,), (1, MOST), (("cut", 0),)), (0, MOST + 2))
        self.assertEqual(stepped((2,), (MOST, 2), (("join", 0),)), (MOST + 1, 0))
        self.assertEqual(stepped((2,), (1, MOST), (("cut", 0), ("join", 0))), (1, MOST))

    def test_wrong(self):
        for units in ((), (2,), (2, 3)):
            self.wrong_each(stepped, ("row", "steps"), units, (1,) * (len(units) + 1), ())


class FewestSteps(YardCase):
    def test_example(self):
        self.assertEqual(steps_apart((2, 3), (1, 0, 0), (0, 0, 6)), 3)
        told = (("cut", 0), ("cut", 1), ("cut", 1))
        self.assertEqual(steps_between((2, 3), (1, 0, 0), (0, 0, 6)), told)
        self.assertEqual(steps_between((2, 3), (0, 0, 6), (1, 0, 0)), (("join", 1), ("join", 1), ("join", 0)))

    def test_by_going_through_steps(self):
        for units in SMALL_UNITS:
            for told in (0, 1, 5, 8, 12, 13):
                rows = rows_of_total(units, told)
                for one in rows:
                    found = steps_from(units, one)
                    self.assertEqual(sorted(found), rows)
                    for other in rows:
                        self.assertEqual(steps_apart(units, one, other), len(found[other]))
                        self.assertEqual(steps_between(units, one, other), found[other])
                        self.made_of_tuples(steps_between(units, one, other))

    def test_differences_of_stairs(self):
        for units in SMALL_UNITS:
            rows = rows_of_total(units, 14)
            for one, other in product_of(rows, rows):
                stairs = zip(plain_stair(units, one), plain_stair(units, other))
                self.assertEqual(steps_apart(units, one, other), sum(abs(a - b) for a, b in stairs))

    def test_unlike_totals(self):
        for units, rows in units_with_rows(5):
            for one, other in product_of(rows, rows):
                if total_of(units, one) != total_of(units, other):
                    self.raises(Unlike, {"value": other}, steps_apart, units, one, other)
                    self.raises(Unlike, {"value": other}, steps_between, units, one, other)

    def test_sixty_and_sixty_one(self):
        self.assertEqual(steps_between((2,), (60, 0), (0, 120)), (("cut", 0),) * 60)
        self.assertEqual(steps_between((2,), (0, 120), (60, 0)), (("join", 0),) * 60)
        self.raises(TooGreat, {"most": 60}, steps_between, (2,), (61, 0), (0, 122))
        self.raises(TooGreat, {"most": 60}, steps_between, (2,), (0, 122), (61, 0))
        self.assertEqual(steps_apart((2,), (61, 0), (0, 122)), 61)
        self.raises(Unlike, {"value": (0, 121)}, steps_between, (2,), (61, 0), (0, 121))
        self.assertEqual(len(steps_between((2, 3), (20, 0, 0), (0, 0, 120))), 60)
        self.raises(TooGreat, {"most": 60}, steps_between, (2, 3), (20, 1, 0), (0, 0, 123))

    def test_great_numbers(self):
        one, other = (MOST // 1000, 0, 0, 0), (0, 0, 0, MOST)
        self.assertEqual(steps_apart((10, 10, 10), one, other), 111 * MOST // 1000)
        self.assertEqual(steps_apart((2,), (MOST // 2, 0), (0, MOST)), MOST // 2)
        self.assertEqual(steps_between((2,), (1, MOST - 2), (0, MOST)), (("cut", 0),))

    def test_on_the_way_there_may_be_more_pieces(self):
        steps = steps_between((2, 2), (1, MOST, 0), (0, MOST, 4))
        self.assertEqual(steps, (("cut", 0), ("cut", 1), ("cut", 1)))
        steps = steps_between((2, 2), (0, MOST, 4), (1, MOST, 0))
        self.assertEqual(steps, (("join", 0), ("join", 1), ("join", 1)))
        steps = steps_between((2, 2), (MOST, 0, 4), (MOST, 2, 0))
        self.assertEqual(steps, (("join", 1), ("join", 1)))

    def test_wrong(self):
        for units in ((), (2,), (2, 3)):
            row = (0,) * (len(units) + 1)
            for function in (steps_apart, steps_between):
                self.wrong_each(function, ("row", "row"), units, row, row)
                self.wrong_each(function, ("row", "row"), units, (1,) * (len(units) + 1), row)


if __name__ == "__main__":
    unittest.main()
