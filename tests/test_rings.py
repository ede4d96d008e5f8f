"""Rings, failing walks: points 43 and 44."""

import itertools
import random
import unittest

from stairyard.errors import BadRow, NoRow
from stairyard.rings import endless_unit, failing_walk, is_failing_walk, is_ring, ring_of
from stairyard.worlds import outlives, world_needs
from tests.runs import (
    PASS, all_left, asking_ring, is_plain_failing, places_from, rings_from, some_world, steps_in, sum_of, walks_from,
    worlds_for)
from tests.test_worlds import ALWAYS, EXAMPLE, circle_of, line_world
from tests.tools import PAPERS, SMALL_UNITS, YardCase, lies_within, rows_to, spoilt, swapped
from tests.wrongs import sample_world, zero_row

MOST = 10 ** 60


def plainly_endless(units, world):
    """The least unit at which a ring to which a walk from place 0 leads asks more, None if there is none."""
    found = [unit for unit in range(len(units) + 1) if asking_ring(units, world, 0, unit)]
    return found[0] if found else None


def is_plain_ring(units, world, value):
    unit, walk, ring = value
    place = end_of(world, 0, walk)
    return place is not None and ring != () and end_of(world, place, ring) == place and (
        sum_of(units, world, ring, unit) > 0)


def end_of(world, place, walk):
    for index in walk:
        if not 0 <= index < len(world[1]) or world[1][index][0] != place:
            return None
        place = world[1][index][2]
    return place


def things_from(world, place, most):
    """Pairs of a thing of a failing walk, of at most two pairs, from a place, and the place to which it leads."""
    found = [((), place)]
    for walk, to in walks_from(world, place, most):
        for times in (1, 2, 3) if walk and to == place else (1,) if walk else ():
            found.append((((walk, times),), to))
            found += [(((walk, times), (last, 1)), end) for last, end in walks_from(world, to, 1) if last]
    return found


def failing_values(units, world, most):
    """Values of the form of a failing walk with short walks."""
    for unit in range(len(units) + 1):
        begun = [((), 0)]
        for _ in range(unit + 1):
            begun = [(things + (thing,), to) for things, place in begun for thing, to in things_from(world, place, most)]
        for things, _ in begun:
            yield (unit, things)


class Rings(YardCase):
    def test_by_all_rings(self):
        for units in SMALL_UNITS:
            seen = set()
            for world in worlds_for(units, 60, 81):
                told = plainly_endless(units, world)
                seen.add(told)
                self.assertEqual(endless_unit(units, world), told)
                self.assertEqual(told is not None, world_needs(units, world)[0] is None)
                if told is None:
                    self.raises(NoRow, {}, ring_of, units, world)
                    continue
                unit, walk, ring = ring_of(units, world)
                self.made_of_tuples(ring_of(units, world))
                self.assertEqual(unit, told)
                self.assertTrue(len(walk) <= 8 and len(ring) <= 8)
                self.assertTrue(is_plain_ring(units, world, (unit, walk, ring)))
                self.assertIs(is_ring(units, world, (unit, walk, ring)), True)
            self.assertTrue(len(seen) > 1)

    def test_more_places(self):
        for units in ((2,), (2, 3)):
            chance = random.Random(82)
            for _ in range(40):
                world = some_world(chance, rows_to(units, 4)[1:], 4, 7)
                self.assertEqual(endless_unit(units, world), plainly_endless(units, world))

    def test_all_values(self):
        for units in ((), (2,), (2, 2)):
            for world in worlds_for(units, 20, 83, 3, 3, 4):
                walks = [walk for place in range(world[0]) for walk, _ in walks_from(world, place, 2)]
                for unit, walk, ring in itertools.product(range(len(units) + 1), walks[:20], walks):
                    value = (unit, walk, ring)
                    self.assertIs(is_ring(units, world, value), is_plain_ring(units, world, value))

    def test_small_ones(self):
        self.assertIsNone(endless_unit((2,), EXAMPLE))
        self.assertEqual(ring_of((2,), ALWAYS), (1, (), (0,)))
        self.assertEqual(endless_unit((2,), circle_of([("ask", (1, 0)), ("bring", (0, 2))])), 0)
        self.assertIsNone(endless_unit((2,), circle_of([("bring", (1, 0)), ("ask", (0, 2))])))
        self.assertEqual(endless_unit((2, 3), circle_of([("bring", (1, 0, 0)), ("ask", (0, 2, 1))])), 2)
        self.assertEqual(endless_unit((2, 3), circle_of([("bring", (0, 1, 9)), ("ask", (0, 2, 1))])), 1)
        # A ring to which no walk from place 0 leads is none of ours.
        self.assertIsNone(endless_unit((2,), (2, ((1, ("ask", (1, 0)), 1), (1, PASS, 0)))))
        self.assertEqual(ring_of((2,), (2, ((1, ("ask", (1, 0)), 1), (0, PASS, 1)))), (0, (1,), (0,)))

    def test_eight_steps(self):
        world = circle_of([("ask", (0, 1))] + [PASS] * 7)
        self.assertEqual(ring_of((2,), world), (1, (), tuple(range(8))))
        line = (8, tuple((at, PASS, at + 1) for at in range(7)) + ((7, ("ask", (1, 0)), 7),))
        self.assertEqual(ring_of((2,), line), (0, tuple(range(7)), (7,)))
        both = (8, tuple((at, PASS, (at + 1) % 8) for at in range(8)) + ((3, ("ask", (0, 1)), 4),))
        told = ring_of((2,), both)
        self.assertTrue(is_plain_ring((2,), both, told) and len(told[1]) <= 8 and len(told[2]) == 8)

    def test_long_walks_are_judged(self):
        world = circle_of([("ask", (0, 1)), PASS])
        self.assertIs(is_ring((2,), world, (1, (0, 1) * 500, (0, 1) * 500)), True)
        self.assertIs(is_ring((2,), world, (1, (0, 1) * 500, (0, 1) * 500 + (0,))), False)
        self.assertIs(is_ring((2,), world, (1, (0,), (1, 0) * 31)), True)

    def test_values_of_every_kind(self):
        world = (2, ((0, PASS, 1), (1, ("ask", (1, 0)), 1), (1, PASS, 0)))
        self.judges(is_ring, (0, (0,), (1,)), (2,), world)
        self.judges(is_ring, (1, (), (0, 1, 2)), (2,), world)
        for value in ((0, (), ()), (0, (0,), ()), (0, (0,), (2, 0, 2)), (2, (0,), (1,)), (0, (0,), (1,), ()), (-1, (0,), (1,)),
                      (0, (1,), (1,)), (0, (), (1,)), (0, (0, 1), (2, 0)), (0, (3,), (1,)), (0, (-1,), (1,)),
                      (0, (0,), (-2,)), (10 ** 70, (0,), (1,)), (0, (10 ** 70,), (1,))):
            self.assertIs(is_ring((2,), world, value), False)
        for value in (*PAPERS, *spoilt((0, (0,), (1,)))):
            self.assertIs(is_ring((2,), EXAMPLE, value), False)

    def test_wrong(self):
        for units in ((), (2,), (2, 3)):
            world, row = sample_world(units), zero_row(units)
            self.wrong_each(endless_unit, ("world",), units, world)
            self.wrong_each(ring_of, ("world",), units, world)
            self.wrong_each(is_ring, ("world", None), units, world, None)
            self.wrong_each(failing_walk, ("world", "row"), units, world, row)
            self.wrong_each(is_failing_walk, ("world", "row", None), units, world, row, None)


class FailingWalks(YardCase):
    def test_one_exactly_if_it_does_not_outlive(self):
        for units in SMALL_UNITS:
            seen = set()
            for world in worlds_for(units, 60, 84):
                need = world_needs(units, world)[0]
                for stock in rows_to(units, 7)[::3]:
                    lasts = need is not None and lies_within(units, need, stock)
                    seen.add((lasts, need is None))
                    if lasts:
                        self.raises(NoRow, {}, failing_walk, units, world, stock)
                        continue
                    told = failing_walk(units, world, stock)
                    self.made_of_tuples(told)
                    self.assertTrue(is_plain_failing(units, world, stock, told))
                    self.assertIs(is_failing_walk(units, world, stock, told), True)
                    # On all its steps some ask cannot be served, whatever is done.
                    steps = steps_in(told)
                    if len(steps) <= 12:
                        self.assertEqual(all_left(units, world, stock, steps)[1], set())
            self.assertEqual(seen, {(True, False), (False, False), (False, True)})

    def test_all_small_values(self):
        for units, most in (((), 3), ((2,), 2), ((3,), 2), ((2, 2), 1)):
            for world in worlds_for(units, 18, 85, 3, 3, 4):
                values = list(failing_values(units, world, most))
                for stock in rows_to(units, 4)[::2]:
                    lasts = outlives(units, world, stock)
                    for value in values[::1 + len(values) // 400]:
                        told = is_plain_failing(units, world, stock, value)
                        self.assertIs(is_failing_walk(units, world, stock, value), told)
                        self.assertFalse(told and lasts)

    def test_example(self):
        value = (1, ((((0,), 1),), (((1, 2), 1),)))
        self.assertIs(is_failing_walk((2,), EXAMPLE, (1, 2), value), True)
        self.assertIs(is_failing_walk((2,), EXAMPLE, (1, 3), value), False)
        told = failing_walk((2,), EXAMPLE, (1, 2))
        self.assertTrue(is_plain_failing((2,), EXAMPLE, (1, 2), told))
        self.raises(NoRow, {}, failing_walk, (2,), EXAMPLE, (1, 3))
        self.raises(NoRow, {}, failing_walk, (2,), (1, ()), (0, 0))

    def test_great_times(self):
        self.assertEqual(failing_walk((), (1, ((0, ("ask", (1,)), 0),)), (MOST,)), (0, ((((0,), MOST + 1),),)))
        for stock in ((MOST, MOST), (0, 0), (0, 1)):
            told = failing_walk((2,), ALWAYS, stock)
            self.assertTrue(is_plain_failing((2,), ALWAYS, stock, told))
            self.assertIs(is_failing_walk((2,), ALWAYS, stock, told), True)
        self.assertIs(is_failing_walk((2,), ALWAYS, (MOST, MOST), (1, ((((0,), 3 * MOST + 1),), ()))), True)
        self.assertIs(is_failing_walk((2,), ALWAYS, (MOST, MOST), (1, ((((0,), 3 * MOST),), ()))), False)
        self.assertIs(is_failing_walk((2,), ALWAYS, (MOST, MOST), (1, ((((0,), MOST ** 3),), ()))), True)
        # A bringing on the way to the ring, much greater than what the ring asks.
        world = (2, ((0, ("bring", (MOST, MOST)), 1), (1, ("ask", (0, 1)), 1)))
        told = failing_walk((10,), world, (MOST, MOST))
        self.assertIs(is_failing_walk((10,), world, (MOST, MOST), told), True)
        self.assertTrue(is_plain_failing((10,), world, (MOST, MOST), told))
        # An ask on the way that is greater than the stock.
        world = (2, ((0, ("ask", (MOST, MOST)), 1), (1, ("ask", (0, 1)), 1)))
        told = failing_walk((10,), world, (0, 0))
        self.assertTrue(is_plain_failing((10,), world, (0, 0), told))
        self.assertIs(is_failing_walk((10,), world, (0, 0), told), True)
        for times, value in ((1, True), (2, True), (0, False), (-1, False)):
            self.assertIs(is_failing_walk((10,), world, (0, 0), (1, ((((0,), 1), ((1,), times)), ()))), value)

    def test_sums_unit_by_unit(self):
        world = line_world(3, [("ask", (0, 1)), ("ask", (1, 0))])
        for value, told in (((1, ((((0, 1), 1),), ())), True), ((1, ((((0,), 1),), (((1,), 1),))), True),
                            ((0, ((((0, 1), 1),),)), True), ((1, ((((0,), 1), ((1,), 1)), ())), True),
                            ((1, ((((0,), 1),), ())), False), ((1, ((), (((0, 1), 1),))), False),
                            ((1, ((((0, 1), 2),), ())), False), ((1, ((((1,), 1),), ())), False)):
            self.assertIs(is_failing_walk((2,), world, (0, 2), value), told)
            self.assertEqual(is_plain_failing((2,), world, (0, 2), value), told)
        # A bringing of a large piece counts as none at the unit 0 if it is passed at a lesser unit ahead.
        world = line_world(4, [("ask", (0, 0, 1)), ("bring", (0, 1, 0)), ("ask", (1, 0, 0))])
        value = (2, ((((0,), 1),), (((1,), 1),), (((2,), 1),)))
        self.assertIs(is_failing_walk((2, 3), world, (0, 0, 3), value), True)
        self.assertIs(is_failing_walk((2, 3), world, (1, 0, 0), value), False)

    def test_values_of_every_kind(self):
        world = (2, ((0, ("ask", (0, 1)), 1), (1, PASS, 0), (1, ("ask", (1, 0)), 1)))
        self.judges(is_failing_walk, (1, ((((0, 1), 3), ((0,), 1)), ())), (2,), world, (1, 1))
        self.judges(is_failing_walk, (1, ((((0,), 1), ((2,), 1)), (((2, 2), 1),))), (2,), world, (1, 1))
        good = (1, ((((0, 1), 4),), ()))
        for value in ((2, ((), *good[1])), (0, good[1]), (1, good[1][:1]), (1, ((((0, 1), 0),), ())), (1, (((), 4), ())),
                      (1, ((((0, 1), -4),), ())), (1, ((((0, 1, 0), 4),), ())), (1, ((((0, 1), 4, 4),), ())), (1, ((), ())),
                      (1, (((((0, 1)), 4), ((), 1)), ())), (1, ((((1, 0), 4),), ())), (1, ((((0, 3), 4),), ())),
                      (1, ((((0, -2), 4),), ())), (1, ((((0, 1),),), ())), (1, (((0, 1), 4), ())), (-1, ()), (0, ())):
            self.assertIs(is_failing_walk((2,), world, (1, 1), value), False)
        for value in (*PAPERS, *spoilt(good)):
            self.assertIs(is_failing_walk((2,), (2, ()), (0, 0), value), False)
        self.raises(BadRow, {"value": None}, is_failing_walk, (2,), world, None, good)

    def test_rings_that_ask_at_one_unit_alone(self):
        for units in ((2,), (2, 3), (2, 2, 2)):
            for unit in range(len(units) + 1):
                ask, bring = (swapped(zero_row(units), at, many) for at, many in ((unit, 1), (len(units), 1000)))
                world = circle_of([("ask", ask), ("bring", bring)])
                self.assertEqual(endless_unit(units, world), unit if unit < len(units) else None)
                stock = (5,) * (len(units) + 1)
                if unit < len(units):
                    told = failing_walk(units, world, stock)
                    self.assertEqual(told[0], unit)
                    self.assertTrue(is_plain_failing(units, world, stock, told))
                else:
                    self.assertIs(outlives(units, world, stock), True)
                self.assertTrue(all(len(ring) == 2 for ring in rings_from(world, 0, 2)))
                self.assertEqual(places_from(world, 0), [0, 1])


if __name__ == "__main__":
    unittest.main()
