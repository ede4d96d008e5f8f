"""Plans, the stocks that live with them, lacks, what may still be asked: points 34 and 35."""

import random
import unittest

from stairyard.errors import BadPlan, NoRow, TooGreat
from stairyard.plans import lives, need_plan, plan_lacks, plan_stocks, plans_apart, put_behind, still_asked
from tests.games import (
    LINE_UNITS, ask_line, balanced, forty, forty_one, lives_by_play, many_rows, plans_of, put_last, size_and_depth)
from tests.tools import SMALL_UNITS, YardCase, add, least_of, lies_within, rows_to, serves, units_with_rows
from tests.wrongs import END, full_plan, plan_line, wrong_plan, zero_row

MOST = 10 ** 60
EXAMPLE = ("ours", ("ask", (1, 0), END), ("ask", (0, 3), END))


def some_rows(units, rows):
    """Zeros, a few small rows and a greater one."""
    return [zero_row(units), *rows[1:4], rows[-1]]


def small_plans(many=40, seed=31):
    for units, rows in units_with_rows(4):
        for plan in plans_of(some_rows(units, rows), many, seed):
            yield units, plan


class NeedPlan(YardCase):
    def test_good_plans(self):
        for units, plan in small_plans():
            self.assertEqual(need_plan(units, plan), plan)
            self.made_of_tuples(need_plan(units, plan))
        great = ("ask", (MOST, MOST), ("bring", (MOST, 0), END))
        self.assertEqual(need_plan((2,), great), great)

    def test_sixteen_and_seventeen_deep(self):
        zeros = (0, 0)
        for plan in (ask_line([zeros] * 15), ask_line([zeros] * 15, "bring"), plan_line(16, END)):
            self.assertEqual(need_plan((2,), plan), plan)
            self.assertEqual(size_and_depth(plan)[1], 16)
        for plan in (ask_line([zeros] * 16), ask_line([zeros] * 16, "bring"), plan_line(17, END), plan_line(17, None),
                     ("either", END, ask_line([zeros] * 15)), ask_line([zeros] * 16, "ask", None)):
            for function in (need_plan, plan_stocks):
                self.raises(TooGreat, {"most": 16}, function, (2,), plan)
            self.raises(TooGreat, {"most": 16}, lives, (2,), plan, None)
        self.raises(BadPlan, {"path": (2,) * 15}, need_plan, (2,), ask_line([zeros] * 15, "ask", None))

    def test_sixty_and_sixty_one_parts(self):
        deed = ("ask", (0, 0), END)
        sixty = ("ours", full_plan(5), ("ours", plan_line(13, deed), END))
        self.assertEqual(size_and_depth(sixty)[0], 60)
        self.assertEqual(need_plan((2,), sixty), sixty)
        more = ("ours", full_plan(5), ("ours", plan_line(13, deed), ("bring", (0, 0), END)))
        self.assertEqual(size_and_depth(more)[0], 61)
        self.raises(TooGreat, {"most": 60}, need_plan, (2,), more)
        # Equal parts are met where they stand, each time.
        self.raises(TooGreat, {"most": 60}, need_plan, (2,), full_plan(6))
        self.raises(TooGreat, {"most": 60}, lives, (2,), full_plan(16), None)
        self.assertIs(lives((2,), full_plan(5), (0, 0)), True)

    def test_deep_ahead_of_many_ahead_of_forms(self):
        def broken(many, deep):
            """A plan with 33 parts, so many more, and an ask for each place down to what is no plan."""
            return ("either", full_plan(5), ("ours", ask_line([(0, 0)] * (many - 1)),
                                             ask_line([(0, 0)] * (deep - 3), "ask", None)))
        # The 61st thing stands 17 deep; it stands 16 deep; the 60th one stands so.
        self.raises(TooGreat, {"most": 16}, need_plan, (2,), broken(13, 17))
        self.raises(TooGreat, {"most": 60}, need_plan, (2,), broken(14, 16))
        self.raises(BadPlan, {"path": (2,) * 15}, need_plan, (2,), broken(13, 16))
        self.raises(TooGreat, {"most": 60}, need_plan, (2,), ("either", full_plan(5), full_plan(5)[:2] + (full_plan(5),)))
        self.raises(BadPlan, {"path": (1,)}, need_plan, (2,), ("either", None, full_plan(16)))
        self.raises(TooGreat, {"most": 60}, need_plan, (2,), ("either", full_plan(6), None))
        self.raises(BadPlan, {"path": ()}, need_plan, (2,), ("eithers", full_plan(6), None))

    def test_wrong(self):
        for units in ((), (2,), (2, 3)):
            row = zero_row(units)
            self.wrong_each(need_plan, ("plan",), units, END)
            self.wrong_each(plan_stocks, ("plan",), units, END)
            for function in (lives, plan_lacks, still_asked):
                self.wrong_each(function, ("plan", "row"), units, END, row)
            for function in (plans_apart, put_behind):
                self.wrong_each(function, ("plan", "plan"), units, END, END)
            self.assertTrue(len(list(wrong_plan(units))) > 100)


class Lives(YardCase):
    def test_by_all_play(self):
        for units, plan in small_plans():
            known = {}
            for stock in rows_to(units, 7):
                told = lives(units, plan, stock)
                self.assertIs(told, lives_by_play(units, plan, stock, known))

    def test_small_ones(self):
        self.assertIs(lives((2,), EXAMPLE, (0, 3)), True)
        self.assertIs(lives((2,), EXAMPLE, (0, 2)), False)
        self.assertIs(lives((2,), ("either",) + EXAMPLE[1:], (0, 3)), False)
        self.assertIs(lives((2,), ("either",) + EXAMPLE[1:], (1, 1)), True)
        self.assertIs(lives((2,), ("bring", (1, 0), ("ask", (1, 0), END)), (0, 0)), True)
        self.assertIs(lives((2,), ("ask", (1, 0), ("bring", (1, 0), END)), (0, 0)), False)
        self.assertIs(lives((2,), ("ask", (0, 1), ("bring", (0, 1), ("ask", (1, 0), END))), (1, 0)), False)
        self.assertIs(lives((2,), END, (0, 0)), True)

    def test_great_numbers(self):
        plan = ask_line([(MOST, MOST)] * 7, "bring", ask_line([(MOST, MOST)] * 8))
        self.assertEqual(size_and_depth(plan)[1], 16)
        self.assertIs(lives((10,), plan, (MOST, MOST)), True)
        self.assertIs(lives((10,), plan, (MOST, MOST - 1)), False)
        self.assertEqual(plan_stocks((10,), plan), ((MOST, MOST),))
        self.assertEqual(plan_stocks((10,), ask_line([(MOST, MOST)] * 15)), ((15 * MOST, 15 * MOST),))
        self.assertEqual(plan_lacks((10,), ask_line([(MOST, MOST)] * 15), (MOST, 0)), ((14 * MOST, 15 * MOST),))
        self.assertEqual(still_asked((10,), ask_line([(0, MOST)] * 15, "bring"), (MOST, MOST)), ((MOST, MOST),))

    def test_more_than_forty_least_rows(self):
        # Whether a stock lives is found without them.
        for plan in (forty_one(), ("ask", (1, 0, 0, 0), many_rows(9, 9)), ("ours", END, many_rows(6, 7))):
            self.raises(TooGreat, {"most": 40}, plan_stocks, LINE_UNITS, plan)
            self.assertIs(lives(LINE_UNITS, plan, (MOST,) * 4), True)
            self.assertIs(lives(LINE_UNITS, plan, (0,) * 4), plan[0] == "ours" and plan[1] == END)


class Stocks(YardCase):
    def test_example(self):
        self.assertEqual(plan_stocks((2,), EXAMPLE), ((0, 3), (1, 0)))
        self.assertEqual(plan_stocks((2,), ("either",) + EXAMPLE[1:]), ((1, 1),))
        self.assertEqual(plan_stocks((2,), END), ((0, 0),))

    def test_by_all_stocks(self):
        for units, plan in small_plans():
            told = plan_stocks(units, plan)
            self.made_of_tuples(told)
            self.assertEqual(sorted(set(told)), list(told))
            self.assertEqual(least_of(units, told), told)
            known = {}
            stocks = rows_to(units, 8)
            enough = [stock for stock in stocks if lives_by_play(units, plan, stock, known)]
            self.assertEqual([row for row in told if row in stocks], list(least_of(units, enough)))
            for stock in stocks:
                self.assertEqual(stock in enough, any(lies_within(units, row, stock) for row in told))

    def test_asks_and_bringings_may_be_exchanged(self):
        for units, plan in small_plans(15, 32):
            rows = rows_to(units, 4)
            one, other = rows[1], rows[-1]
            for word in ("ask", "bring"):
                told = plan_stocks(units, (word, one, (word, other, plan)))
                self.assertEqual(told, plan_stocks(units, (word, other, (word, one, plan))))
                self.assertEqual(told, plan_stocks(units, (word, add(one, other), plan)))
                for choice in ("either", "ours"):
                    ahead = (word, one, (choice, plan, ("ask", other, END)))
                    both = (choice, (word, one, plan), (word, one, ("ask", other, END)))
                    self.assertEqual(plan_stocks(units, ahead), plan_stocks(units, both))
            ahead = plan_stocks(units, ("bring", other, ("ask", one, plan)))
            for row in plan_stocks(units, ("ask", one, ("bring", other, plan))):
                self.assertTrue(any(lies_within(units, least, row) for least in ahead))

    def test_forty_and_more_in_the_whole(self):
        told = plan_stocks(LINE_UNITS, forty())
        self.assertEqual((len(told), told), (40, least_of(LINE_UNITS, told)))
        self.raises(TooGreat, {"most": 40}, plan_stocks, LINE_UNITS, forty_one())
        self.raises(TooGreat, {"most": 40}, plan_stocks, LINE_UNITS, many_rows(6, 7))
        self.assertEqual(len(plan_stocks(LINE_UNITS, many_rows(6, 6))), 36)
        ask = ("ask", (1, 1, 1, 1), forty())
        self.assertEqual(plan_stocks(LINE_UNITS, ask), tuple(add(row, (1, 1, 1, 1)) for row in told))
        self.assertEqual(plan_stocks(LINE_UNITS, ("bring", (1, 1, 1, 1), ask)), told)
        self.assertEqual(plan_stocks(LINE_UNITS, ("either", forty(), END)), told)
        self.assertEqual(plan_stocks(LINE_UNITS, ("ours", forty(), ("ask", told[7], END))), told)

    def test_more_than_forty_in_a_part(self):
        huge = ("ask", (MOST,) * 4, END)
        for plan in (("ours", END, forty_one()), ("ours", forty_one(), END), ("either", forty_one(), huge),
                     ("either", huge, forty_one()), ("ask", (1, 0, 0, 0), forty_one()),
                     ("bring", (MOST,) * 4, forty_one()), ("ours", END, ("bring", (0,) * 4, many_rows(6, 7)))):
            self.raises(TooGreat, {"most": 40}, plan_stocks, LINE_UNITS, plan)
            self.raises(TooGreat, {"most": 40}, plan_lacks, LINE_UNITS, plan, (0,) * 4)
            self.raises(TooGreat, {"most": 40}, still_asked, LINE_UNITS, plan, (0,) * 4)
            self.raises(TooGreat, {"most": 40}, plans_apart, LINE_UNITS, plan, END)
            self.raises(TooGreat, {"most": 40}, plans_apart, LINE_UNITS, END, plan)
            self.raises(BadPlan, {"path": ()}, plans_apart, LINE_UNITS, plan, None)
        self.assertEqual(plan_stocks(LINE_UNITS, ("either", forty(), huge)), ((MOST,) * 4,))
        self.assertEqual(plan_stocks(LINE_UNITS, ("ours", END, forty())), ((0,) * 4,))


class Lacks(YardCase):
    def test_by_all_rows(self):
        for units, plan in small_plans(25, 33):
            rows = rows_to(units, 6)
            known = {}
            for stock in rows[::3]:
                told = plan_lacks(units, plan, stock)
                self.made_of_tuples(told)
                enough = [row for row in rows if lives_by_play(units, plan, add(stock, row), known)]
                self.assertEqual([row for row in told if row in rows], list(least_of(units, enough)))
                for row in rows:
                    self.assertEqual(row in enough, any(lies_within(units, least, row) for least in told))
                self.assertEqual(told == (zero_row(units),), lives(units, plan, stock))

    def test_small_ones(self):
        self.assertEqual(plan_lacks((2,), EXAMPLE, (0, 0)), ((0, 3), (1, 0)))
        self.assertEqual(plan_lacks((2,), EXAMPLE, (0, 2)), ((0, 1),))
        self.assertEqual(plan_lacks((2,), EXAMPLE, (0, 3)), ((0, 0),))
        self.assertEqual(len(plan_lacks(LINE_UNITS, forty(), (0,) * 4)), 40)


class StillAsked(YardCase):
    def test_by_all_rows(self):
        for units, plan in small_plans(25, 34):
            rows = rows_to(units, 5)
            known = {}
            for stock in rows_to(units, 7)[::4]:
                told = still_asked(units, plan, stock)
                self.made_of_tuples(told)
                self.assertEqual(sorted(set(told)), list(told))
                self.assertEqual(told == (), not lives_by_play(units, plan, stock, known))
                for row in told:
                    self.assertFalse(any(other != row and lies_within(units, row, other) for other in told))
                for row in rows:
                    served = lives_by_play(units, ("ask", row, plan), stock, known)
                    self.assertEqual(served, any(lies_within(units, row, most) for most in told))

    def test_small_ones(self):
        self.assertEqual(still_asked((2,), END, (1, 1)), ((1, 1),))
        self.assertEqual(still_asked((2,), EXAMPLE, (0, 2)), ())
        self.assertEqual(still_asked((2,), EXAMPLE, (1, 1)), ((0, 1),))
        # Behind three small ones (1, 0) is left, behind a large one (0, 3).
        self.assertEqual(still_asked((2,), EXAMPLE, (1, 3)), ((0, 3), (1, 0)))
        self.assertEqual(still_asked((2,), EXAMPLE, (2, 1)), ((1, 1),))
        self.assertEqual(still_asked((), ("ask", (3,), END), (7,)), ((4,),))
        self.assertEqual(still_asked((), ("ask", (3,), END), (2,)), ())


class Apart(YardCase):
    def test_by_all_play(self):
        chance = random.Random(35)
        for units, rows in units_with_rows(4):
            plans = list(plans_of(some_rows(units, rows), 40, 35))
            for _ in range(150):
                first, second = chance.choice(plans), chance.choice(plans)
                least = set(plan_stocks(units, first) + plan_stocks(units, second))
                known = {}
                apart = [row for row in least if lives_by_play(units, first, row, known)
                         != lives_by_play(units, second, row, known)]
                if apart:
                    self.assertEqual(plans_apart(units, first, second), min(apart))
                else:
                    self.assertEqual(plan_stocks(units, first), plan_stocks(units, second))
                    self.raises(NoRow, {}, plans_apart, units, first, second)

    def test_small_ones(self):
        self.assertEqual(plans_apart((2,), EXAMPLE, ("ask", (1, 0), END)), (0, 3))
        self.assertEqual(plans_apart((2,), EXAMPLE, ("ask", (0, 3), END)), (1, 0))
        self.assertEqual(plans_apart((2,), EXAMPLE, END), (0, 0))
        self.raises(NoRow, {}, plans_apart, (2,), EXAMPLE, ("ours", *EXAMPLE[:0:-1]))
        self.raises(NoRow, {}, plans_apart, (2,), ("bring", (5, 5), EXAMPLE), END)


class PutBehind(YardCase):
    def test_each_end(self):
        for units, plan in small_plans(25, 36):
            for last in (END, ("ask", zero_row(units), END), ("either", END, END)):
                whole = put_last(plan, last)
                many, deep = size_and_depth(whole)
                if many <= 60 and deep <= 16:
                    self.assertEqual(put_behind(units, plan, last), whole)
                    self.made_of_tuples(put_behind(units, plan, last))
                if last == END:
                    self.assertEqual(put_behind(units, END, plan), plan)

    def test_lives_as_one_behind_the_other(self):
        for units in SMALL_UNITS[:3]:
            rows = rows_to(units, 3)
            for one in plans_of(rows[:2], 6, 37):
                for other in plans_of(rows[:2], 3, 38):
                    whole = put_behind(units, one, other)
                    for stock in rows_to(units, 5):
                        self.assertEqual(lives(units, whole, stock), lives_by_play(units, put_last(one, other), stock, {}))

    def test_sixteen_and_seventeen_deep(self):
        zeros = (0, 0)
        for first, second in ((8, 8), (1, 16), (16, 1), (15, 2)):
            plan = put_behind((2,), ask_line([zeros] * (first - 1)), ask_line([zeros] * (second - 1)))
            self.assertEqual(plan, ask_line([zeros] * (first + second - 2)))
        plan = put_behind((2,), ask_line([zeros] * 8), ask_line([zeros] * 7))
        self.assertEqual(size_and_depth(plan), (16, 16))
        for first, second in ((8, 8), (1, 15), (15, 1), (15, 15)):
            self.raises(TooGreat, {"most": 16}, put_behind, (2,), ask_line([zeros] * first), ask_line([zeros] * second))

    def test_sixty_and_sixty_one_parts(self):
        # Ten ends and nine choices; five parts in the place of each end but for one part less.
        ten = balanced("either", [END] * 10)
        self.assertEqual(size_and_depth(put_behind((2,), ten, ask_line([(0, 0)] * 4)))[0], 59)
        self.raises(TooGreat, {"most": 60}, put_behind, (2,), ten, ask_line([(0, 0)] * 5))
        sixty = put_behind((2,), ("ask", (0, 0), ten), ask_line([(0, 0)] * 4))
        self.assertEqual(size_and_depth(sixty)[0], 60)
        self.raises(TooGreat, {"most": 60}, put_behind, (2,), ("ask", (0, 0), ("ask", (0, 0), ten)),
                    ask_line([(0, 0)] * 4))
        self.raises(TooGreat, {"most": 60}, put_behind, (2,), full_plan(5), full_plan(5))

    def test_which_of_both_is_told(self):
        zeros = (0, 0)
        long = ask_line([zeros] * 12)
        # The first end comes to stand 17 deep: this is met ahead of the 61st part.
        early = ("ours", ask_line([zeros] * 4), full_plan(3))
        self.assertEqual(size_and_depth(put_last(early, long)), (73, 18))
        self.raises(TooGreat, {"most": 16}, put_behind, (2,), early, long)
        # Only the last one does: the 61st part is met ahead of it.
        long = ask_line([zeros] * 11)
        late = ("ours", balanced("ours", [END] * 5), ask_line([zeros] * 4))
        self.assertEqual(size_and_depth(put_last(late, long)), (81, 17))
        self.raises(TooGreat, {"most": 60}, put_behind, (2,), late, long)
        self.raises(BadPlan, {"path": ()}, put_behind, (2,), late, None)
        self.raises(BadPlan, {"path": (2,)}, put_behind, (2,), ("ask", zeros, None), None)

    def test_served_as_asked(self):
        for units, rows in units_with_rows(4):
            for one, other in zip(rows, rows[::-1]):
                plan = put_behind(units, ("ask", one, END), ("ask", other, END))
                for stock in rows_to(units, 7)[::2]:
                    self.assertEqual(lives(units, plan, stock), serves(units, stock, add(one, other)))


if __name__ == "__main__":
    unittest.main()
