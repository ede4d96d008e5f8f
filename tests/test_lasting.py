"""What so many steps ask, how long a stock lasts, plans of so many steps: point 45."""

import unittest

from stairyard.errors import BadParameter, TooGreat
from stairyard.lasting import as_plan, how_long, needs_within
from stairyard.plans import plan_stocks
from stairyard.worlds import outlives, world_needs
from tests.games import size_and_depth
from tests.runs import PASS, serves_first, steps_from, worlds_for
from tests.test_worlds import ALWAYS, EXAMPLE, circle_of, line_world
from tests.tools import SMALL_UNITS, YardCase, add, lies_within, rows_to, take
from tests.wrongs import END, sample_world, zero_row

MOST = 10 ** 60
BILLION = 10 ** 9


def plain_plan(world, place, many):
    """The plan of the first so many steps from a place, which may have far too many parts."""
    if many == 0 or not steps_from(world, place):
        return END
    plans = []
    for _, deed, to in steps_from(world, place):
        behind = plain_plan(world, to, many - 1)
        plans.append(behind if deed == PASS else (*deed, behind))
    whole = plans.pop()
    while plans:
        whole = ("either", plans.pop(), whole)
    return whole


class Within(YardCase):
    def test_by_all_play(self):
        for units in SMALL_UNITS:
            for world in worlds_for(units, 24, 91, 2):
                known = {}
                for many in range(5):
                    told = needs_within(units, world, many)
                    self.made_of_tuples(told)
                    self.assertEqual(len(told), world[0])
                    for place in range(world[0]):
                        for row in rows_to(units, 5):
                            enough = serves_first(units, world, place, row, many, known)
                            self.assertEqual(enough, lies_within(units, told[place], row))

    def test_no_steps(self):
        for units in SMALL_UNITS:
            for world in worlds_for(units, 20, 92):
                self.assertEqual(needs_within(units, world, 0), (zero_row(units),) * world[0])
                self.assertEqual(needs_within(units, (8, ()), BILLION), (zero_row(units),) * 8)

    def test_each_number_is_one_step_more(self):
        # What more steps ask lies above what fewer ask, and needs are come to after so many steps.
        for units in SMALL_UNITS:
            for world in worlds_for(units, 30, 93):
                rows = [needs_within(units, world, many) for many in range(20)]
                for ahead, behind in zip(rows, rows[1:]):
                    for one, other in zip(ahead, behind):
                        self.assertTrue(lies_within(units, one, other))
                enough = (len(units) + 1) * (world[0] - 1)
                for place, need in enumerate(world_needs(units, world)):
                    if need is not None:
                        for many in (enough, enough + 1, enough + 7, 10 ** 6, BILLION):
                            self.assertEqual(needs_within(units, world, many)[place], need)
                    else:
                        self.assertNotEqual(needs_within(units, world, 10 ** 6)[place], rows[19][place])

    def test_ring_by_ring(self):
        for units, ask in (((), (3,)), ((2,), (0, 1)), ((2,), (1, 0)), ((2, 3), (1, 1, 1))):
            world = circle_of([("ask", ask), PASS])
            for many in (0, 1, 2, 3, 10, 11, 12345, BILLION - 1, BILLION):
                told = needs_within(units, world, many)
                self.assertEqual(told[0], tuple((many + 1) // 2 * number for number in ask))
                self.assertEqual(told[1], tuple(many // 2 * number for number in ask))

    def test_more_is_brought_than_asked_at_another_unit(self):
        # A large piece is asked and six small ones are brought: they are put together by nobody.
        world = circle_of([("ask", (1, 0)), ("bring", (0, 6))])
        self.assertEqual(needs_within((2,), world, BILLION), ((BILLION // 2, 0), (BILLION // 2, 0)))
        # A small piece is asked and a large one is brought, then a small one is asked for ever.
        world = (2, ((0, ("ask", (0, 1)), 0), (0, ("bring", (1, 0)), 1), (1, ("ask", (0, 3)), 0)))
        for many in range(7):
            self.assertEqual(needs_within((2,), world, many)[0], (0, many))
        self.assertEqual(needs_within((2,), world, BILLION), ((0, BILLION), (0, BILLION + 2)))

    def test_great_numbers(self):
        world = circle_of([("ask", (MOST, MOST))])
        self.assertEqual(needs_within((10,), world, BILLION), ((BILLION * MOST, BILLION * MOST),))
        self.raises(BadParameter, {"value": BILLION + 1}, needs_within, (10,), world, BILLION + 1)
        full = (8, tuple((at, ("ask", (at, 1, 2, 3)), (at + 1) % 8) for at in range(8))
                + tuple((at, ("bring", (1, at, 0, 1)), (at + 3) % 8) for at in range(6)))
        told = needs_within((10, 10, 10), full, BILLION)
        self.assertTrue(all(lies_within((10, 10, 10), one, two)
                            for one, two in zip(needs_within((10, 10, 10), full, BILLION - 1), told)))

    def test_wrong(self):
        for units in ((), (2,), (2, 3)):
            world, row = sample_world(units), zero_row(units)
            self.wrong_each(needs_within, ("world", "steps to 10 ** 9"), units, world, 0)
            self.wrong_each(how_long, ("world", "row"), units, world, row)
            self.wrong_each(as_plan, ("world", "steps to 60"), units, world, 0)


class HowLong(YardCase):
    def test_by_all_play(self):
        for units in SMALL_UNITS:
            seen = set()
            for world in worlds_for(units, 30, 94, 2):
                known = {}
                for stock in rows_to(units, 5):
                    told = how_long(units, world, stock)
                    self.assertEqual(told is None, outlives(units, world, stock))
                    if told is None:
                        self.assertTrue(serves_first(units, world, 0, stock, 5, known))
                        continue
                    seen.add(told)
                    self.assertIs(type(told), int)
                    if told < 5:
                        self.assertTrue(serves_first(units, world, 0, stock, told, known))
                        self.assertFalse(serves_first(units, world, 0, stock, told + 1, known))
                    self.assertTrue(lies_within(units, needs_within(units, world, told)[0], stock))
                    self.assertFalse(lies_within(units, needs_within(units, world, told + 1)[0], stock))
            self.assertTrue({0, 1, 2} <= seen)

    def test_small_ones(self):
        self.assertIsNone(how_long((2,), EXAMPLE, (1, 3)))
        self.assertEqual(how_long((2,), EXAMPLE, (1, 2)), 2)
        self.assertEqual(how_long((2,), EXAMPLE, (1, 0)), 0)
        self.assertEqual(how_long((2,), EXAMPLE, (2, 0)), 2)
        self.assertEqual(how_long((2,), EXAMPLE, (0, 9)), 0)
        for many in range(20):
            self.assertEqual(how_long((2,), ALWAYS, (0, many)), many)
            self.assertEqual(how_long((2,), ALWAYS, (many, 1)), 2 * many + 1)
        self.assertIsNone(how_long((2,), (8, ()), (0, 0)))
        self.assertEqual(how_long((2,), line_world(3, [PASS, ("ask", (0, 1))]), (0, 0)), 1)
        self.assertIsNone(how_long((2,), line_world(3, [PASS, ("ask", (0, 1))]), (0, 1)))

    def test_great_answers(self):
        self.assertEqual(how_long((2,), ALWAYS, (0, BILLION + 1)), BILLION + 1)
        self.assertEqual(how_long((2,), ALWAYS, (MOST, MOST)), 3 * MOST)
        self.assertEqual(how_long((10, 10, 10), (1, ((0, ("ask", (0, 0, 0, 1)), 0),)), (MOST,) * 4), 1111 * MOST)
        self.assertEqual(how_long((), (1, ((0, ("ask", (MOST,)), 0),)), (MOST,)), 1)
        world = (8, tuple((at, PASS, (at + 1) % 8) for at in range(7)) + ((7, ("ask", (1,)), 0),))
        self.assertEqual(how_long((), world, (MOST,)), 8 * MOST + 7)
        # All but one of what is asked is brought again.
        world = circle_of([("ask", (MOST,)), ("bring", (MOST - 1,))])
        self.assertEqual(how_long((), world, (MOST,)), 2)
        world = circle_of([("bring", (MOST - 1,)), ("ask", (MOST,))])
        self.assertEqual(how_long((), world, (MOST,)), 2 * MOST + 1)
        # Much is brought on the way to where it is asked piece by piece.
        world = (2, ((0, ("bring", (MOST, 0)), 1), (1, ("ask", (0, 1)), 1)))
        self.assertEqual(how_long((10,), world, (MOST, 5)), 20 * MOST + 6)

    def test_just_before_a_need_is_come_to(self):
        for units in SMALL_UNITS:
            for world in worlds_for(units, 40, 95):
                need = world_needs(units, world)[0]
                if need is not None and any(need):
                    unit = [at for at, many in enumerate(need) if many][0]
                    less = take(need, tuple(int(at == unit) for at in range(len(need))))
                    told = how_long(units, world, less)
                    self.assertTrue(0 <= told < (len(units) + 1) * (world[0] - 1))
                    self.assertIsNone(how_long(units, world, need))


class AsPlan(YardCase):
    def test_step_by_step(self):
        for units in SMALL_UNITS:
            for world in worlds_for(units, 40, 96):
                for many in range(5):
                    whole = plain_plan(world, 0, many)
                    parts, deep = size_and_depth(whole)
                    if parts > 60:
                        self.raises(TooGreat, {"most": 60}, as_plan, units, world, many)
                    elif deep > 16:
                        self.raises(TooGreat, {"most": 16}, as_plan, units, world, many)
                    else:
                        self.assertEqual(as_plan(units, world, many), whole)
                        self.made_of_tuples(whole)
                        self.assertEqual(plan_stocks(units, whole), needs_within(units, world, many)[:1])

    def test_small_ones(self):
        self.assertEqual(as_plan((2,), EXAMPLE, 0), END)
        self.assertEqual(as_plan((2,), EXAMPLE, 1), ("either", ("ask", (0, 3), END), ("ask", (1, 0), END)))
        self.assertEqual(as_plan((2,), EXAMPLE, 2), (
            "either", ("ask", (0, 3), ("bring", (0, 3), END)), ("ask", (1, 0), END)))
        three = (2, ((0, PASS, 1), (0, ("ask", (1, 0)), 0), (1, PASS, 0), (0, ("bring", (0, 1)), 1)))
        self.assertEqual(as_plan((2,), three, 1), (
            "either", END, ("either", ("ask", (1, 0), END), ("bring", (0, 1), END))))

    def test_passes_make_no_parts(self):
        self.assertEqual(as_plan((2,), circle_of([PASS]), 60), END)
        self.raises(BadParameter, {"value": 61}, as_plan, (2,), circle_of([PASS]), 61)
        line = line_world(8, [PASS] * 6 + [("ask", (0, 1))])
        self.assertEqual(as_plan((2,), line, 6), END)
        self.assertEqual(as_plan((2,), line, 7), ("ask", (0, 1), END))
        self.assertEqual(as_plan((2,), line, 60), ("ask", (0, 1), END))
        far = circle_of([PASS] * 7 + [("ask", (0, 1))])
        self.assertEqual(size_and_depth(as_plan((2,), far, 60)), (8, 8))

    def test_sixteen_and_seventeen_deep(self):
        self.assertEqual(size_and_depth(as_plan((2,), ALWAYS, 15)), (16, 16))
        for many in (16, 17, 58, 59):
            self.raises(TooGreat, {"most": 16}, as_plan, (2,), ALWAYS, many)
        # 61 parts, and much deeper, too.
        self.raises(TooGreat, {"most": 60}, as_plan, (2,), ALWAYS, 60)
        self.assertEqual(plan_stocks((2,), as_plan((2,), ALWAYS, 15)), ((0, 15),))

    def test_sixty_and_sixty_one_parts(self):
        # From place 0 asks to place 1, where eight parts begin, asks to place 2, where all ends, and passes to it.
        def fan(on, over, passes):
            steps = [(0, ("ask", (1,)), 1)] * on + [(0, ("ask", (2,)), 2)] * over + [(0, PASS, 2)] * passes
            return (3, tuple(steps + [(1, ("ask", (3,)), 2)] * 3))
        for (on, over, passes), parts in (((6, 0, 0), 59), ((5, 3, 1), 60), ((6, 0, 1), 61), ((5, 4, 0), 61)):
            if parts <= 60:
                told = as_plan((), fan(on, over, passes), 2)
                self.assertEqual(told, plain_plan(fan(on, over, passes), 0, 2))
                self.assertEqual(size_and_depth(told)[0], parts)
            else:
                self.assertEqual(size_and_depth(plain_plan(fan(on, over, passes), 0, 2))[0], parts)
                self.raises(TooGreat, {"most": 60}, as_plan, (), fan(on, over, passes), 2)

    def test_choices_make_plans_deeper(self):
        # From place 0 so many ways: passes to place 1, where all ends, and at last an ask that leads back.
        def ways(many):
            return (2, ((0, PASS, 1),) * (many - 1) + ((0, ("ask", (0, 1)), 0),))
        self.assertEqual(size_and_depth(as_plan((2,), ways(7), 2)), (27, 15))
        self.assertEqual(size_and_depth(as_plan((2,), ways(14), 1)), (28, 15))
        self.assertEqual(size_and_depth(plain_plan(ways(8), 0, 2)), (31, 17))
        self.raises(TooGreat, {"most": 16}, as_plan, (2,), ways(8), 2)
        # With an ask ahead of all this it is sixteen deep, with two of them seventeen.
        one = (4, ((0, ("ask", (0, 1)), 2),) + ((2, PASS, 1),) * 6 + ((2, ("ask", (0, 1)), 2),))
        self.assertEqual(size_and_depth(as_plan((2,), one, 3)), (28, 16))
        two = (4, ((0, ("ask", (0, 1)), 3), (3, ("ask", (0, 1)), 2)) + one[1][1:])
        self.assertEqual(size_and_depth(plain_plan(two, 0, 4)), (29, 17))
        self.raises(TooGreat, {"most": 16}, as_plan, (2,), two, 4)

    def test_numbers_of_parts(self):
        # N passes from a place to itself: the parts are doubled by each step, and so on.
        two = (1, ((0, PASS, 0), (0, PASS, 0)))
        self.assertEqual([size_and_depth(as_plan((2,), two, many)) for many in range(5)],
                         [(1, 1), (3, 2), (7, 3), (15, 4), (31, 5)])
        for many in (5, 20, 60):
            self.raises(TooGreat, {"most": 60}, as_plan, (2,), two, many)
        many_ways = (8, tuple((at % 8, ("ask", (1, 1)), (3 * at + 1) % 8) for at in range(14)))
        self.raises(TooGreat, {"most": 60}, as_plan, (2,), many_ways, 60)

    def test_other_places_do_not_matter(self):
        # The plan from place 1 would have far too many parts.
        world = (2, ((0, ("ask", (0, 1)), 0),) + ((1, PASS, 1),) * 13)
        self.assertEqual(size_and_depth(as_plan((2,), world, 15)), (16, 16))
        self.assertEqual(as_plan((2,), (2, world[1][1:]), 60), END)


class Together(YardCase):
    def test_steps_in_two_parts(self):
        # The first steps of all runs, and then those behind them from wherever these lead.
        for units in ((), (2,), (2, 3)):
            for world in worlds_for(units, 30, 97):
                for many in (1, 2, 5, 1000):
                    behind = needs_within(units, world, many)
                    ahead = needs_within(units, world, many + 1)
                    for place in range(world[0]):
                        for _, deed, to in steps_from(world, place):
                            if deed[0] == "ask":
                                self.assertTrue(lies_within(units, add(deed[1], behind[to]), ahead[place]))
                            elif deed == PASS:
                                self.assertTrue(lies_within(units, behind[to], ahead[place]))
                            else:
                                self.assertTrue(lies_within(units, behind[to], add(ahead[place], deed[1])))


if __name__ == "__main__":
    unittest.main()
