"""What more may be brought or asked at a step, worlds side by side: points 46 and 47."""

import random
import unittest

from stairyard.errors import BadIndex, BadParameter, BadWorld, NoRow, TooGreat
from stairyard.more import beside, least_more, most_more, with_deed
from stairyard.worlds import need_world, outlives, world_needs
from tests.runs import PASS, has_need, serves_first, some_world, steps_from, worlds_for
from tests.test_worlds import ALWAYS, EXAMPLE, circle_of, line_world
from tests.tools import SMALL_UNITS, YardCase, add, lies_within, rows_to, swapped
from tests.wrongs import sample_world, wrong_deed, zero_row

MOST = 10 ** 60


def plainly_with(world, step, deed):
    places, steps = world
    source, done, to = steps[step]
    return (places + 1, swapped(steps, step, (source, done, places)) + ((places, deed, to),))


def some_stock(units, world):
    """Whether some stock outlives a world."""
    return world_needs(units, world)[0] is not None


class WithDeed(YardCase):
    def test_each_step(self):
        for units in SMALL_UNITS:
            for world in worlds_for(units, 30, 101):
                for step in range(len(world[1])):
                    for deed in (PASS, ("ask", rows_to(units, 2)[-1]), ("bring", rows_to(units, 3)[-1])):
                        told = with_deed(units, world, step, deed)
                        self.assertEqual(told, plainly_with(world, step, deed))
                        self.assertEqual(need_world(units, told), told)
                        self.made_of_tuples(told)

    def test_a_pass_changes_nothing(self):
        for units in ((), (2,), (2, 3)):
            for world in worlds_for(units, 30, 102):
                for step in range(len(world[1])):
                    told = with_deed(units, world, step, PASS)
                    self.assertEqual(world_needs(units, told)[:-1], world_needs(units, world))
                    to = world[1][step][2]
                    self.assertEqual(world_needs(units, told)[-1], world_needs(units, world)[to])

    def test_eight_places_and_fourteen_steps(self):
        step = (0, PASS, 0)
        for places, many in ((7, 13), (7, 1), (1, 13)):
            world = (places, (step,) * many)
            told = with_deed((2,), world, many - 1, PASS)
            self.assertEqual(told, (places + 1, (step,) * (many - 1) + ((0, PASS, places), (places, PASS, 0))))
            self.assertEqual(need_world((2,), told), told)
        self.raises(TooGreat, {"most": 8}, with_deed, (2,), (8, (step,)), 0, PASS)
        self.raises(TooGreat, {"most": 8}, with_deed, (2,), (8, (step,) * 14), 0, PASS)
        self.raises(TooGreat, {"most": 14}, with_deed, (2,), (7, (step,) * 14), 0, PASS)
        self.raises(TooGreat, {"most": 14}, with_deed, (2,), (1, (step,) * 14), 13, PASS)

    def test_parameters_ahead_of_what_is_too_great(self):
        full = (8, ((0, PASS, 0),) * 14)
        self.raises(BadIndex, {"value": 14}, with_deed, (2,), full, 14, None)
        self.raises(BadParameter, {"value": None}, with_deed, (2,), full, 13, None)
        self.raises(BadParameter, {"value": ("ask", (0,))}, with_deed, (2,), full, 0, ("ask", (0,)))
        self.raises(BadIndex, {"value": 0}, with_deed, (2,), (1, ()), 0, PASS)
        self.raises(BadIndex, {"value": -1}, least_more, (2,), ALWAYS, -1)
        self.raises(BadIndex, {"value": 1}, most_more, (2,), ALWAYS, 1)

    def test_wrong(self):
        for units in ((), (2,), (2, 3)):
            world = sample_world(units)
            self.wrong_each(with_deed, ("world", "step", "deed"), units, world, 0, PASS)
            self.wrong_each(least_more, ("world", "step"), units, world, 0)
            self.wrong_each(most_more, ("world", "step"), units, world, 0)
            self.wrong_each(beside, ("world", "world"), units, world, world)
            self.assertTrue(len(list(wrong_deed(units))) > 50)


class More(YardCase):
    def test_by_trying(self):
        for units in SMALL_UNITS:
            seen = set()
            rows = rows_to(units, 7)
            for world in worlds_for(units, 60, 103):
                for step in range(len(world[1])):
                    enough = [row for row in rows if some_stock(units, plainly_with(world, step, ("bring", row)))]
                    # More than all asks of the world together, at each unit.
                    great = plainly_with(world, step, ("bring", (100,) * len(rows[0])))
                    if some_stock(units, great):
                        told = least_more(units, world, step)
                        self.made_of_tuples(told)
                        self.assertEqual(enough, [row for row in rows if lies_within(units, told, row)])
                        self.assertTrue(some_stock(units, plainly_with(world, step, ("bring", told))))
                        seen.add(("bring", any(told)))
                    else:
                        self.assertEqual(enough, [])
                        self.raises(NoRow, {}, least_more, units, world, step)
                        seen.add("none")
                    self.asks_by_trying(units, world, step, rows, seen)
            self.assertTrue({("bring", True), ("bring", False), "none", "any", "lost", ("ask", True)} <= seen)

    def asks_by_trying(self, units, world, step, rows, seen):
        if not has_need(units, world, 0):
            self.raises(NoRow, {}, most_more, units, world, step)
            seen.add("lost")
            return
        let = [row for row in rows if some_stock(units, plainly_with(world, step, ("ask", row)))]
        told = most_more(units, world, step)
        if told is None:
            self.assertEqual(let, rows)
            great = plainly_with(world, step, ("ask", (MOST,) * len(rows[0])))
            self.assertTrue(some_stock(units, great))
            seen.add("any")
        else:
            self.made_of_tuples(told)
            self.assertEqual(let, [row for row in rows if lies_within(units, row, told)])
            seen.add(("ask", any(told)))

    def test_rings_over_the_step(self):
        world = circle_of([("ask", (1, 0)), ("bring", (0, 5))])
        for step in (0, 1):
            self.assertEqual(least_more((2,), world, step), (1, 0))
            self.raises(NoRow, {}, most_more, (2,), world, step)
        world = circle_of([("ask", (0, 5)), ("bring", (3, 0)), PASS])
        for step in (0, 1, 2):
            self.assertEqual(least_more((2,), world, step), (0, 0))
            # The stair (3, 6) less (0, 5): one small piece.
            self.assertEqual(most_more((2,), world, step), (0, 1))
        world = circle_of([("ask", (0, 0, 1)), ("bring", (1, 1, 0))])
        self.assertEqual(most_more((2, 3), world, 0), (1, 0, 2))

    def test_the_greatest_of_several_rings(self):
        # Three ways back: each unit's greatest sum counts.
        world = (2, ((0, PASS, 1), (1, ("ask", (1, 0)), 0), (1, ("ask", (0, 3)), 0), (1, ("bring", (0, 2)), 0)))
        self.assertEqual(least_more((2,), world, 0), (1, 1))
        self.raises(NoRow, {}, least_more, (2,), world, 1)
        self.raises(NoRow, {}, least_more, (2,), world, 3)
        self.raises(NoRow, {}, most_more, (2,), world, 0)
        world = (2, ((0, PASS, 1), (1, ("bring", (2, 0)), 0), (1, ("bring", (1, 3)), 0)))
        self.assertEqual(most_more((2,), world, 0), (1, 2))
        self.assertEqual(most_more((2,), world, 1), (2, 0))
        self.assertEqual(most_more((2,), world, 2), (1, 3))

    def test_steps_to_the_same_place(self):
        self.assertEqual(least_more((2,), ALWAYS, 0), (0, 1))
        self.raises(NoRow, {}, most_more, (2,), ALWAYS, 0)
        world = (1, ((0, ("bring", (1, 1)), 0), (0, PASS, 0)))
        self.assertEqual(most_more((2,), world, 0), (1, 1))
        self.assertEqual(most_more((2,), world, 1), (0, 0))
        self.assertEqual(least_more((2,), world, 0), (0, 0))
        twice = (1, ((0, ("ask", (0, 1)), 0), (0, ("ask", (1, 0)), 0)))
        self.raises(NoRow, {}, least_more, (2,), twice, 0)
        self.raises(NoRow, {}, least_more, (2,), twice, 1)

    def test_no_ring_over_the_step(self):
        for world in (line_world(3, [("ask", (1, 0)), PASS]), (3, ((0, PASS, 0), (1, ("ask", (1, 0)), 1)))):
            step = len(world[1]) - 1
            self.assertEqual(least_more((2,), world, step), (0, 0))
            self.assertIsNone(most_more((2,), world, step))
        # The ring that asks more is elsewhere: behind the step, which leads to it, and ahead of it.
        behind = (2, ((0, PASS, 1), (1, ("ask", (0, 1)), 1)))
        self.raises(NoRow, {}, least_more, (2,), behind, 0)
        self.raises(NoRow, {}, most_more, (2,), behind, 0)
        self.assertEqual(least_more((2,), behind, 1), (0, 1))
        # No walk from place 0 leads to it.
        away = (2, ((0, PASS, 0), (1, ("ask", (0, 1)), 1)))
        self.assertEqual(least_more((2,), away, 0), (0, 0))
        self.assertEqual(most_more((2,), away, 0), (0, 0))
        self.assertEqual(least_more((2,), away, 1), (0, 0))
        self.assertIsNone(most_more((2,), away, 1))

    def test_more_than_a_world_may_have(self):
        # Eight places and fourteen steps: no deed may be put in, but what it might be is told.
        steps = tuple((at, ("ask", (0, 1)), (at + 1) % 8) for at in range(8)) + ((0, PASS, 0),) * 6
        self.assertEqual(least_more((2,), (8, steps), 3), (0, 8))
        steps = tuple((at, ("bring", (0, 1)), (at + 1) % 8) for at in range(8)) + ((0, PASS, 0),) * 6
        self.assertEqual(most_more((2,), (8, steps), 3), (0, 8))
        self.assertEqual(most_more((2,), (8, steps), 9), (0, 0))
        self.raises(TooGreat, {"most": 8}, with_deed, (2,), (8, steps), 3, PASS)

    def test_great_numbers(self):
        asks, brings = (circle_of([(word, (MOST, MOST))] * 8) for word in ("ask", "bring"))
        self.assertEqual(least_more((10,), asks, 5), (8 * MOST, 8 * MOST))
        self.assertEqual(most_more((10,), brings, 5), (8 * MOST, 8 * MOST))
        less = circle_of([("bring", (MOST, 0)), ("ask", (0, 1))])
        self.assertEqual(most_more((10,), less, 1), (MOST - 1, 9))


class Beside(YardCase):
    def test_places_and_steps(self):
        for units in SMALL_UNITS:
            chance = random.Random(104)
            rows = rows_to(units, 3)
            for _ in range(40):
                one = some_world(chance, rows, chance.choice((1, 2)), chance.randrange(3))
                other = some_world(chance, rows, chance.choice((1, 2, 3)), chance.randrange(3))
                told = beside(units, one, other)
                self.made_of_tuples(told)
                self.assertEqual(told, plainly_beside(one, other))
                self.assertEqual(need_world(units, told), told)
                # The need at a place is that of both, though the world chooses whose turn it is.
                ones, others = world_needs(units, one), world_needs(units, other)
                for place, need in enumerate(world_needs(units, told)):
                    first, second = ones[place // other[0]], others[place % other[0]]
                    both = None if first is None or second is None else add(first, second)
                    self.assertEqual(need, both)

    def test_by_all_play(self):
        for units in ((), (2,)):
            chance = random.Random(105)
            rows = rows_to(units, 2)
            for _ in range(15):
                one, other = (some_world(chance, rows, 2, 2) for _ in range(2))
                told = beside(units, one, other)
                for stock in rows_to(units, 4):
                    if outlives(units, told, stock):
                        self.assertTrue(serves_first(units, told, 0, stock, 4, {}))

    def test_small_ones(self):
        one = (2, ((0, ("ask", (1, 0)), 1),))
        other = (3, ((0, PASS, 2), (2, ("bring", (0, 1)), 1)))
        self.assertEqual(beside((2,), one, other), (6, (
            (0, ("ask", (1, 0)), 3), (1, ("ask", (1, 0)), 4), (2, ("ask", (1, 0)), 5),
            (0, PASS, 2), (3, PASS, 5), (2, ("bring", (0, 1)), 1), (5, ("bring", (0, 1)), 4))))
        self.assertEqual(beside((2,), (1, ()), other), other)
        self.assertEqual(beside((2,), other, (1, ())), other)
        self.assertEqual(beside((2,), (8, ()), (1, ())), (8, ()))
        self.assertEqual(len(steps_from(beside((2,), EXAMPLE, (1, ())), 0)), 2)

    def test_eight_places_and_fourteen_steps(self):
        step = (0, PASS, 0)
        for ones, first, others, second in ((2, 2, 4, 3), (8, 6, 1, 1), (1, 1, 8, 6), (4, 0, 2, 3), (1, 7, 1, 7)):
            one, other = (ones, (step,) * first), (others, (step,) * second)
            told = beside((2,), one, other)
            self.assertEqual((told[0], len(told[1])), (ones * others, first * others + second * ones))
            self.assertEqual(need_world((2,), told), told)
        for ones, first, others, second, most in ((3, 0, 3, 0, 8), (5, 0, 2, 0, 8), (8, 14, 8, 14, 8), (2, 2, 5, 14, 8),
                                                  (2, 2, 4, 4, 14), (1, 14, 1, 1, 14), (1, 1, 8, 7, 14), (2, 4, 4, 0, 14)):
            self.raises(TooGreat, {"most": most}, beside, (2,), (ones, (step,) * first), (others, (step,) * second))
        self.raises(BadWorld, {"place": ()}, beside, (2,), (8, (step,) * 14), None)


def plainly_beside(one, other):
    steps = []
    for source, deed, to in one[1]:
        for place in range(other[0]):
            steps.append((source * other[0] + place, deed, to * other[0] + place))
    for source, deed, to in other[1]:
        for place in range(one[0]):
            steps.append((place * other[0] + source, deed, place * other[0] + to))
    return (one[0] * other[0], tuple(steps))


if __name__ == "__main__":
    unittest.main()
