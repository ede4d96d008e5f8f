"""Worlds, what their places need, tables, what is left behind a walk: points 40 to 42."""

import itertools
import random
import unittest

from stairyard.errors import BadRow, BadSteps, BadWorld, NoRow, TooGreat
from stairyard.lasting import needs_within
from stairyard.worlds import is_table, left_behind, need_world, outlives, walks_to, world_needs
from tests.runs import (
    PASS, all_left, has_need, lasting_rows, needs_by_walks, serves_first, steps_from, walks_from, worlds_for)
from tests.tools import (
    PAPERS, SMALL_UNITS, YardCase, add, lies_within, rows_to, spoilt, swapped, total_of)
from tests.wrongs import sample_world, zero_row

MOST = 10 ** 60
# Three small pieces are asked and brought, for ever, or a large piece is asked once.
EXAMPLE = (3, ((0, ("ask", (0, 3)), 1), (1, ("bring", (0, 3)), 0), (0, ("ask", (1, 0)), 2)))
ALWAYS = (1, ((0, ("ask", (0, 1)), 0),))


def is_plain_table(units, world, value):
    for source, deed, to in world[1]:
        if value[source] is None:
            continue
        if value[to] is None:
            return False
        needed = add(value[to], deed[1]) if deed[0] == "ask" else value[to]
        there = add(value[source], deed[1]) if deed[0] == "bring" else value[source]
        if not lies_within(units, needed, there):
            return False
    return True


def line_world(places, deeds):
    """A world whose steps lead from place 0 through all places, one for each deed."""
    return (places, tuple((at, deed, at + 1) for at, deed in enumerate(deeds)))


def circle_of(deeds):
    """A world whose steps lead from place 0 through all places and back to it."""
    return (len(deeds), tuple((at, deed, (at + 1) % len(deeds)) for at, deed in enumerate(deeds)))


class NeedWorld(YardCase):
    def test_good_ones(self):
        for units in SMALL_UNITS:
            for world in worlds_for(units, 30, 71):
                self.assertEqual(need_world(units, world), world)
                self.made_of_tuples(need_world(units, world))
        great = (8, ((7, ("ask", (MOST, MOST)), 7),) * 14)
        self.assertEqual(need_world((2,), great), great)

    def test_places_and_steps(self):
        step = (0, PASS, 0)
        for places in range(1, 9):
            for many in (0, 1, 13, 14):
                self.assertEqual(need_world((2,), (places, (step,) * many)), (places, (step,) * many))
            self.raises(BadWorld, {"place": (1,)}, need_world, (2,), (places, (step,) * 15))
            self.raises(BadWorld, {"place": (1, 1)}, need_world, (2,), (places, (step, (places, PASS, 0))))
            self.raises(BadWorld, {"place": (1, 0)}, need_world, (2,), (places, ((0, PASS, places),)))
            last = (places, ((places - 1, PASS, places - 1),))
            self.assertEqual(need_world((2,), last), last)
        for places in (0, 9, -1, 10 ** 70):
            self.raises(BadWorld, {"place": (0,)}, need_world, (2,), (places, (None,) * 15))

    def test_wrong(self):
        for units in ((), (2,), (2, 3)):
            world, row = sample_world(units), zero_row(units)
            self.wrong_each(need_world, ("world",), units, world)
            self.wrong_each(world_needs, ("world",), units, world)
            self.wrong_each(outlives, ("world", "row"), units, world, row)
            self.wrong_each(is_table, ("world", None), units, world, None)
            self.wrong_each(left_behind, ("world", "row", "walk"), units, world, row, ())


class Needs(YardCase):
    def test_example(self):
        self.assertEqual(world_needs((2,), EXAMPLE), ((1, 3), (1, 0), (0, 0)))
        self.assertIs(outlives((2,), EXAMPLE, (1, 3)), True)
        self.assertIs(outlives((2,), EXAMPLE, (2, 1)), True)
        self.assertIs(outlives((2,), EXAMPLE, (1, 2)), False)
        self.assertIs(outlives((2,), EXAMPLE, (0, 99)), False)

    def test_by_all_walks(self):
        for units in SMALL_UNITS:
            seen = set()
            for world in worlds_for(units, 60, 72):
                told = world_needs(units, world)
                self.assertEqual(told, needs_by_walks(units, world))
                seen.update(row is None for row in told)
                for row in told:
                    if row is not None:
                        self.made_of_tuples(row)
            self.assertEqual(seen, {True, False})

    def test_more_places(self):
        for units in ((), (2,), (3, 2)):
            for world in worlds_for(units, 60, 73, 4, 5, 8):
                self.assertEqual(world_needs(units, world), needs_by_walks(units, world))

    def test_by_all_play(self):
        for units in ((), (2,), (3,), (2, 2)):
            for world in worlds_for(units, 30, 74, 2):
                told = world_needs(units, world)
                most = max([total_of(units, row) for row in told if row is not None], default=0)
                if most > 7:
                    continue
                lasting = lasting_rows(units, world, 7)
                for place in range(world[0]):
                    for row in rows_to(units, 7):
                        need = told[place]
                        enough = need is not None and lies_within(units, need, row)
                        self.assertEqual((place, row) in lasting, enough)
                for row in rows_to(units, 7):
                    self.assertIs(outlives(units, world, row), (0, row) in lasting)

    def test_no_steps_and_places_without(self):
        for units in SMALL_UNITS:
            zeros = zero_row(units)
            for places in (1, 8):
                self.assertEqual(world_needs(units, (places, ())), (zeros,) * places)
                self.assertIs(outlives(units, (places, ()), zeros), True)
            one = swapped(zeros, 0, 1)
            self.assertEqual(world_needs(units, (2, ((0, ("ask", one), 1),))), (one, zeros))
            self.assertEqual(world_needs(units, (2, ((0, ("bring", one), 1),))), (zeros, zeros))

    def test_steps_to_the_same_place(self):
        for deeds, need in (((PASS,), (0, 0)), ((("ask", (0, 0)),), (0, 0)), ((("bring", (1, 0)),), (0, 0)),
                            ((("ask", (0, 1)),), None), ((("bring", (1, 0)), ("ask", (0, 1))), None)):
            world = (1, tuple((0, deed, 0) for deed in deeds))
            self.assertEqual(world_needs((2,), world), (need,))
            self.assertIs(outlives((2,), world, (MOST, MOST)), need is not None)

    def test_rings_that_ask_as_much_as_they_bring(self):
        one, less = (1, 0, 0), (0, 1, 2)
        self.assertEqual(world_needs((2, 3), circle_of([("ask", one), ("bring", one)])), (one, (0, 0, 0)))
        # Brought is as much in all, but in small pieces: large ones get lacking.
        self.assertEqual(world_needs((2, 3), circle_of([("ask", one), ("bring", (0, 0, 6))])), (None, None))
        self.assertEqual(world_needs((2, 3), circle_of([("ask", less), ("bring", one)])), ((0, 1, 2), (0, 0, 0)))
        # More by one least piece, and more at one unit alone.
        self.assertEqual(world_needs((2, 3), circle_of([("ask", (0, 0, 1)), PASS])), (None, None))
        self.assertEqual(world_needs((2, 3), circle_of([("ask", (0, 1, 0)), ("bring", (0, 0, 9))])), (None, None))
        self.assertEqual(world_needs((2, 3), circle_of([("ask", (0, 1, 1)), ("bring", (0, 1, 0))])), (None, None))

    def test_none_only_where_such_a_ring_is_behind(self):
        world = (4, ((0, PASS, 1), (1, ("ask", (0, 1)), 1), (2, ("ask", (1, 0)), 3), (3, PASS, 0), (3, PASS, 3)))
        self.assertEqual(world_needs((2,), world), (None,) * 4)
        self.assertEqual(world_needs((2,), (4, world[1][:3])), (None, None, (1, 0), (0, 0)))

    def test_great_numbers(self):
        deeds = [("ask", (MOST, MOST))] * 7
        self.assertEqual(world_needs((10,), line_world(8, deeds))[:2], ((7 * MOST, 7 * MOST), (6 * MOST, 6 * MOST)))
        world = circle_of(deeds[:4] + [("bring", (MOST, MOST))] * 4)
        self.assertEqual(world_needs((10,), world)[0], (4 * MOST, 4 * MOST))
        self.assertIs(outlives((10,), circle_of([("ask", (MOST, 0)), ("bring", (MOST, 0))]), (MOST, 0)), True)
        self.assertIs(outlives((10,), circle_of([("ask", (MOST, 0)), ("bring", (MOST, 0))]), (MOST - 1, MOST)), False)
        self.assertIs(outlives((10,), circle_of([("ask", (MOST, 0)), ("bring", (MOST - 1, 9))]), (MOST, MOST)), False)

    def test_needs_that_take_all_steps(self):
        # They come of walks through all places at each unit: of no fewer steps.
        ask, bring = "ask", "bring"
        for units, steps in (
                ((2,), ((0, (ask, (2, 1)), 2), (2, (bring, (2, 1)), 0), (0, (ask, (0, 4)), 1), (1, (bring, (1, 2)), 0))),
                ((2,), ((0, (bring, (2, 0)), 3), (3, (ask, (0, 3)), 1), (1, (bring, (2, 1)), 2),
                        (1, (bring, (1, 3)), 3), (3, (bring, (0, 4)), 2), (2, (ask, (2, 0)), 0))),
                ((2, 2), ((0, (bring, (4, 0, 3)), 1), (1, (ask, (1, 3, 2)), 2), (2, (bring, (1, 4, 0)), 1),
                          (1, (ask, (4, 0, 3)), 0)))):
            world = (1 + max(source for source, _, _ in steps), steps)
            enough = (len(units) + 1) * (world[0] - 1)
            need = needs_by_walks(units, world)
            self.assertEqual(world_needs(units, world), need)
            self.assertNotEqual(needs_within(units, world, enough - 1), need)
            self.assertEqual(needs_within(units, world, enough), need)

    def test_all_units_in_turn(self):
        # At each unit the walk goes further, as the need behind it is greater at the units ahead.
        world = line_world(4, [("ask", (0, 0, 1)), ("ask", (0, 1, 0)), ("ask", (1, 0, 0))])
        self.assertEqual(world_needs((2, 3), world), ((1, 1, 1), (1, 1, 0), (1, 0, 0), (0, 0, 0)))
        world = line_world(4, [("ask", (0, 0, 1)), ("bring", (0, 1, 0)), ("ask", (1, 0, 0))])
        self.assertEqual(world_needs((2, 3), world)[0], (1, 0, 1))


class Tables(YardCase):
    def test_all_small_ones(self):
        for units in ((), (2,), (2, 2)):
            rows = [None, *rows_to(units, 3)]
            for world in worlds_for(units, 24, 75):
                for value in itertools.product(rows, repeat=world[0]):
                    self.assertIs(is_table(units, world, value), is_plain_table(units, world, value))

    def test_needs_lie_within_each(self):
        for units in SMALL_UNITS:
            chance = random.Random(76)
            rows = rows_to(units, 8)
            for world in worlds_for(units, 40, 77):
                told = world_needs(units, world)
                self.assertIs(is_table(units, world, told), True)
                values = [tuple(chance.choice((None, *rows)) for _ in range(world[0])) for _ in range(150)]
                values += [tuple(None if need is None else add(need, chance.choice(rows)) for need in told)]
                for value in values:
                    if is_table(units, world, value):
                        for row, need in zip(value, told):
                            if row is not None:
                                self.assertIsNotNone(need)
                                self.assertTrue(lies_within(units, need, row))

    def test_numbers_however_great(self):
        world = circle_of([("ask", (MOST, 0)), ("bring", (MOST, 0))])
        self.assertIs(is_table((10,), world, ((MOST * MOST, 0), (MOST * MOST - MOST, 0))), True)
        self.assertIs(is_table((10,), world, ((MOST * MOST, 0), (MOST * MOST - MOST + 1, 0))), False)
        self.assertIs(is_table((10,), world, ((MOST * MOST, 0), (MOST * MOST - MOST - 1, 10))), False)
        self.assertIs(is_table((10,), world, ((MOST * MOST, 7), (MOST * MOST - MOST, 7))), True)
        self.assertIs(is_table((10,), world, (None, None)), True)

    def test_values_of_every_kind(self):
        self.judges(is_table, ((1, 3), (1, 0), (0, 0)), (2,), EXAMPLE)
        self.judges(is_table, (None, None, (1, 0)), (2,), EXAMPLE)
        for value in (((1, 3), (1, 0)), ((1, 3), (1, 0), (0, 0), (0, 0)), ((1, 3), None, (0, 0)), ((1, 3), (1, 0), None),
                      (None, (1, 0), (0, 0)), ((1, 3), (1, -1), (0, 0)), ((1, 3), (1,), (0, 0))):
            self.assertIs(is_table((2,), EXAMPLE, value), False)
        for value in (*PAPERS, *spoilt(((0, 9),))):
            nothing = isinstance(value, tuple) and len(value) == 1 and value[0] is None
            self.assertIs(is_table((2,), ALWAYS, value), nothing)


class LeftBehind(YardCase):
    def test_example(self):
        self.assertEqual(left_behind((2,), EXAMPLE, (2, 0), (0, 1)), (0, (0, 4)))
        self.raises(NoRow, {}, left_behind, (2,), EXAMPLE, (2, 0), (0, 1, 2))
        self.assertEqual(left_behind((2,), EXAMPLE, (2, 0), ()), (0, (2, 0)))
        self.assertEqual(left_behind((2,), EXAMPLE, (2, 0), (2,)), (2, (1, 0)))

    def test_whatever_is_left_lies_within(self):
        for units in SMALL_UNITS:
            for world in worlds_for(units, 24, 78):
                for walk, _ in walks_from(world, 0, 3)[:40]:
                    for stock in rows_to(units, 7)[::5]:
                        place, rows = all_left(units, world, stock, walk)
                        if not rows:
                            self.raises(NoRow, {}, left_behind, units, world, stock, walk)
                            continue
                        told = left_behind(units, world, stock, walk)
                        self.made_of_tuples(told)
                        self.assertEqual(told[0], place)
                        self.assertIn(told[1], rows)
                        self.assertTrue(all(lies_within(units, row, told[1]) for row in rows))

    def test_sixty_steps_and_one_more(self):
        world = circle_of([("ask", (0, 1)), PASS])
        self.assertEqual(left_behind((2,), world, (15, 0), (0, 1) * 30), (0, (0, 0)))
        self.raises(NoRow, {}, left_behind, (2,), world, (14, 1), (0, 1) * 30)
        self.raises(TooGreat, {"most": 60}, left_behind, (2,), world, (15, 0), (0, 1) * 30 + (0,))
        self.raises(TooGreat, {"most": 60}, left_behind, (2,), world, (15, 0), (None,) * 61)
        self.raises(BadSteps, {"place": 59}, left_behind, (2,), world, (0, 0), (0, 1) * 29 + (0, 0))

    def test_steps_ahead_of_asks(self):
        self.raises(BadSteps, {"place": 2}, left_behind, (2,), EXAMPLE, (0, 0), (0, 1, 1))
        self.raises(BadSteps, {"place": 0}, left_behind, (2,), (1, ()), (0, 0), (0,))
        self.raises(BadSteps, {"place": 1}, left_behind, (2,), EXAMPLE, (0, 0), (2, 0))
        self.raises(BadSteps, {"place": 0}, left_behind, (2,), EXAMPLE, (0, 0), (1,))
        self.raises(BadRow, {"value": None}, left_behind, (2,), EXAMPLE, None, None)

    def test_great_numbers(self):
        world = circle_of([("bring", (MOST, MOST))])
        self.assertEqual(left_behind((10,), world, (MOST, 0), (0,) * 60), (0, (61 * MOST, 60 * MOST)))


class WalksTo(YardCase):
    def test_by_all_walks(self):
        for world in worlds_for((2,), 120, 80, 3, 6, 12):
            for start in range(world[0]):
                least = {}
                for walk, to in walks_from(world, start, world[0] - 1):
                    key = (len(walk), walk)
                    least[to] = min(key, least.get(to, key))
                told = [(to, walk) for (_, walk), to in sorted((key, to) for to, key in least.items())]
                self.assertEqual(list(walks_to(world, start).items()), told)

    def test_line_circle_and_no_steps(self):
        line, circle = line_world(8, [PASS] * 7), circle_of([PASS] * 8)
        for start in range(8):
            self.assertEqual(walks_to(line, start), {to: tuple(range(start, to)) for to in range(start, 8)})
            self.assertEqual(len(walks_to(circle, start)[(start + 7) % 8]), 7)
            self.assertEqual(walks_to((8, ()), start), {start: ()})


class FirstSteps(YardCase):
    def test_a_stock_that_outlives_serves_the_first_ones(self):
        for units in ((), (2,), (3,)):
            for world in worlds_for(units, 30, 79, 2):
                known = {}
                for row in rows_to(units, 6):
                    if outlives(units, world, row):
                        self.assertTrue(serves_first(units, world, 0, row, 5, known))
                    elif has_need(units, world, 0):
                        # A need comes of walks of so many steps at the most.
                        many = (len(units) + 1) * (world[0] - 1)
                        self.assertFalse(serves_first(units, world, 0, row, many, known))
                self.assertTrue(all(to < world[0] for _, _, to in steps_from(world, 0)))


if __name__ == "__main__":
    unittest.main()
