"""Plans played, strategies, plays against a stock: points 36 to 38."""

import itertools
import random
import unittest

from stairyard.errors import BadPlan, BadRow, BadSteps, NoRow, TooGreat
from stairyard.plans import plan_stocks
from stairyard.plays import is_play_against, is_strategy, play_against, played, strategy
from tests.games import (
    LINE_UNITS, ask_line, best_left, forty_one, is_plain_against, lives_by_play, many_rows, plans_of, plays_of,
    size_and_depth, some_plan, strategies_of)
from tests.tools import PAPERS, SMALL_UNITS, YardCase, add, rows_to, serves, spoilt, units_with_rows
from tests.wrongs import END, full_plan, plan_line, sample_plan, zero_row

MOST = 10 ** 60
OURS = ("ours", ("ask", (1, 0), END), ("ask", (0, 3), END))
# Small pieces are asked and brought, then a large one is asked.
EXAMPLE = ("ask", (0, 1), ("bring", (0, 1), ("ask", (1, 0), END)))


def small_plans(many, seed, deep=4):
    for units, rows in units_with_rows(4):
        for plan in plans_of([zero_row(units), rows[1], rows[-1]], many, seed, deep):
            yield units, plan


def plainly_played(units, plan, stock, choices):
    """The path and what is left, or the place of what does not choose."""
    path, place = (), 0
    while True:
        word = plan[0]
        if word in ("either", "ours"):
            if place == len(choices):
                return place
            path += (choices[place],)
            plan = plan[choices[place]]
            place += 1
            continue
        behind = best_left(units, stock, plan[1]) if word == "ask" else None
        if word == "end" or word == "ask" and behind is None:
            return (path, stock) if place == len(choices) else place
        stock = behind if word == "ask" else add(stock, plan[1])
        path += (2,)
        plan = plan[2]


def plainly_chosen(units, plan, stock, known):
    """The strategy that takes at each ours the first plan with which what is left lives."""
    word = plan[0]
    if word == "end":
        return plan
    if word == "ours":
        first = lives_by_play(units, plan[1], stock, known)
        return plainly_chosen(units, plan[1 if first else 2], stock, known)
    if word == "either":
        return (word, *[plainly_chosen(units, part, stock, known) for part in plan[1:]])
    stock = best_left(units, stock, plan[1]) if word == "ask" else add(stock, plan[1])
    return (word, plan[1], plainly_chosen(units, plan[2], stock, known))


class Played(YardCase):
    def test_by_going_through(self):
        for units, plan in small_plans(25, 41):
            for stock in rows_to(units, 6)[::3]:
                for many in range(4):
                    for choices in itertools.product((1, 2), repeat=many):
                        told = plainly_played(units, plan, stock, choices)
                        if isinstance(told, int):
                            self.raises(BadSteps, {"place": told}, played, units, plan, stock, choices)
                        else:
                            self.assertEqual(played(units, plan, stock, choices), told)
                            self.made_of_tuples(told)

    def test_no_choice(self):
        self.assertEqual(played((2,), END, (1, 1), ()), ((), (1, 1)))
        self.assertEqual(played((2,), EXAMPLE, (1, 0), ()), ((2, 2), (0, 2)))
        self.assertEqual(played((2,), EXAMPLE, (1, 1), ()), ((2, 2, 2), (0, 1)))
        self.assertEqual(played((2,), EXAMPLE, (0, 0), ()), ((), (0, 0)))
        self.raises(BadSteps, {"place": 0}, played, (2,), EXAMPLE, (1, 0), (1,))
        self.raises(BadSteps, {"place": 0}, played, (2,), EXAMPLE, (1, 0), (None,))

    def test_choices_at_the_head_and_within(self):
        self.assertEqual(played((2,), OURS, (1, 0), (1,)), ((1, 2), (0, 0)))
        self.assertEqual(played((2,), OURS, (1, 0), (2,)), ((2,), (1, 0)))
        plan = ("either", ("ask", (0, 1), ("ours", END, ("either", END, ("bring", (1, 0), END)))), OURS)
        self.assertEqual(played((2,), plan, (1, 0), (1, 1)), ((1, 2, 1), (0, 1)))
        self.assertEqual(played((2,), plan, (1, 0), (1, 2, 2)), ((1, 2, 2, 2, 2), (1, 1)))
        self.assertEqual(played((2,), plan, (0, 0), (1,)), ((1,), (0, 0)))
        for choices, place in (((), 0), ((1,), 1), ((1, 2), 2), ((1, 1, 1), 2), ((1, 2, 1, 1), 3), ((3,), 0),
                               ((1, 3), 1), ((1, 1, 3), 2), ((0, None), 0), ((1, True), 1), ((2, 1, None), 2)):
            self.raises(BadSteps, {"place": place}, played, (2,), plan, (1, 0), choices)
        # The stock that cannot serve the ask ends the game: no choice behind it is met.
        self.raises(BadSteps, {"place": 1}, played, (2,), plan, (0, 0), (1, 1))

    def test_great_numbers(self):
        plan = ask_line([(MOST, MOST)] * 15, "bring")
        self.assertEqual(played((10,), plan, (MOST, MOST), ()), ((2,) * 15, (16 * MOST, 16 * MOST)))
        self.assertEqual(played((10,), ("ask", (0, MOST), END), (MOST, 0), ()), ((2,), (9 * MOST // 10, 0)))
        self.assertEqual(played((2,), plan_line(16, END), (0, 0), (2,) * 15), ((2,) * 15, (0, 0)))
        self.raises(BadSteps, {"place": 15}, played, (2,), plan_line(16, END), (0, 0), (2,) * 1000)

    def test_wrong(self):
        for units in ((), (2,), (2, 3)):
            row = zero_row(units)
            self.wrong_each(played, ("plan", "row", "choices"), units, sample_plan(), row, (1, 1))
            self.wrong_each(strategy, ("plan", "row"), units, sample_plan(), row)
            self.wrong_each(play_against, ("plan", "row"), units, sample_plan(), row)
            self.wrong_each(is_strategy, ("plan", "row", None), units, sample_plan(), row, None)
            self.wrong_each(is_play_against, ("plan", "row", None), units, sample_plan(), row, None)


class Strategies(YardCase):
    def test_the_one_that_is_told(self):
        for units, plan in small_plans(50, 42):
            known = {}
            for stock in rows_to(units, 6)[::2]:
                if lives_by_play(units, plan, stock, known):
                    told = strategy(units, plan, stock)
                    self.assertEqual(told, plainly_chosen(units, plan, stock, known))
                    self.assertIs(is_strategy(units, plan, stock, told), True)
                    self.made_of_tuples(told)
                    self.assertEqual(len(plan_stocks(units, told)), 1)
                else:
                    self.raises(NoRow, {}, strategy, units, plan, stock)

    def test_all_of_them(self):
        for units, plan in small_plans(50, 43):
            known = {}
            values = strategies_of(plan)
            others = [END, plan, ("ask", zero_row(units), END), ("either", END, END)]
            for stock in rows_to(units, 6)[::3]:
                living = 0
                for value in [*values, *others]:
                    told = value in values and lives_by_play(units, value, stock, known)
                    living += told
                    self.assertIs(is_strategy(units, plan, stock, value), told)
                # A stock lives with a plan exactly if there is a strategy with which it does.
                self.assertEqual(living > 0, lives_by_play(units, plan, stock, known))

    def test_the_first_plan_if_what_is_left_lives(self):
        self.assertEqual(strategy((2,), OURS, (1, 0)), OURS[1])
        self.assertEqual(strategy((2,), OURS, (0, 3)), OURS[2])
        self.assertEqual(strategy((2,), OURS, (1, 1)), OURS[1])
        self.assertEqual(strategy((2,), ("ours", OURS[2], OURS[1]), (1, 1)), OURS[2])
        self.raises(NoRow, {}, strategy, (2,), OURS, (0, 2))
        inner = ("ours", ("ours", ("ask", (3, 0), END), ("ask", (0, 3), END)), END)
        self.assertEqual(strategy((2,), inner, (1, 1)), ("ask", (0, 3), END))
        self.assertEqual(strategy((2,), inner, (1, 0)), END)
        self.assertEqual(strategy((2,), ("ask", (0, 1), inner), (2, 0)), ("ask", (0, 1), ("ask", (0, 3), END)))
        self.assertEqual(strategy((2,), ("either", inner, ("ask", (0, 1), inner)), (2, 0)),
                         ("either", ("ask", (0, 3), END), ("ask", (0, 1), ("ask", (0, 3), END))))

    def test_more_than_forty_least_rows(self):
        for plan in (forty_one(), many_rows(6, 7)):
            told = strategy(LINE_UNITS, plan, (MOST,) * 4)
            self.assertIs(is_strategy(LINE_UNITS, plan, (MOST,) * 4, told), True)
            self.assertIs(is_strategy(LINE_UNITS, plan, (0,) * 4, told), False)
            self.raises(NoRow, {}, strategy, LINE_UNITS, plan, (0,) * 4)
            play = play_against(LINE_UNITS, plan, (0,) * 4)
            self.assertIs(is_play_against(LINE_UNITS, plan, (0,) * 4, play), True)
            self.assertIs(is_play_against(LINE_UNITS, plan, (MOST,) * 4, play), False)

    def test_values_of_every_kind(self):
        plan = ("ours", ("bring", (0, 1), END), ("either", ("ask", (0, 1), END), OURS))
        self.judges(is_strategy, ("bring", (0, 1), END), (2,), plan, (1, 0))
        self.judges(is_strategy, ("either", ("ask", (0, 1), END), ("ask", (1, 0), END)), (2,), plan, (1, 0))
        deep = END
        for _ in range(3000):
            deep = ("ask", (0, 0), deep)
        for value in (deep, plan, OURS, ("either", OURS[1]), ("either", OURS[1], OURS[1], OURS[1]), ("end", END)):
            self.assertIs(is_strategy((2,), plan, (9, 9), value), False)
        for value in (*PAPERS, *spoilt(OURS[1])):
            self.assertIs(is_strategy((2,), OURS, (0, 0), value), False)
        for plan in (full_plan(5), plan_line(16, END)):
            self.assertIs(is_strategy((2,), plan, (0, 0), strategy((2,), plan, (0, 0))), True)


class PlaysAgainst(YardCase):
    def test_example(self):
        self.assertIs(is_play_against((2,), EXAMPLE, (1, 0), ("on", ("on", ("over", (1, 0, 0))))), True)
        for told in ((0, 0, 0), (1, 1, 0), (1, 1, 1)):
            value = ("on", ("on", ("over", told)))
            self.assertIs(is_play_against((2,), EXAMPLE, (1, 0), value), False)
        play = play_against((2,), EXAMPLE, (1, 0))
        self.assertTrue(is_plain_against((2,), EXAMPLE, (1, 0), play))
        self.raises(NoRow, {}, play_against, (2,), EXAMPLE, (1, 1))

    def test_all_of_them(self):
        for units, plan in small_plans(25, 44, 3):
            known = {}
            plays = list(plays_of(units, plan))
            for stock in rows_to(units, 6)[::3]:
                against = []
                for value in plays:
                    told = is_plain_against(units, plan, stock, value)
                    self.assertIs(is_play_against(units, plan, stock, value), told)
                    against += [value] * told
                # There is one exactly if the stock does not live.
                self.assertEqual(against == [], lives_by_play(units, plan, stock, known))
                if against:
                    self.assertIn(play_against(units, plan, stock), against)
                    self.made_of_tuples(play_against(units, plan, stock))
                else:
                    self.raises(NoRow, {}, play_against, units, plan, stock)

    def test_longer_ones(self):
        chance = random.Random(45)
        for units in SMALL_UNITS:
            rows = rows_to(units, 5)
            for _ in range(60):
                plan = some_plan(chance, rows, 7)
                stock = chance.choice(rows_to(units, 9))
                if lives_by_play(units, plan, stock, {}):
                    self.raises(NoRow, {}, play_against, units, plan, stock)
                else:
                    play = play_against(units, plan, stock)
                    self.assertTrue(is_plain_against(units, plan, stock, play))
                    self.assertIs(is_play_against(units, plan, stock, play), True)

    def test_units_that_stay_fall_and_rise(self):
        # A middle piece is lacking as small ones were asked, then a large one as a middle one was.
        plan = ("ask", (0, 0, 1), ("ask", (0, 1, 0), ("ask", (1, 0, 0), END)))
        for told, against in (((2, 1, 0), True), ((0, 0, 0), False), ((1, 1, 0), False), ((2, 2, 0), True),
                              ((2, 2, 2), True), ((1, 1, 1), False), ((2, 2, 1), True)):
            value = ("on", ("on", ("over", told)))
            self.assertIs(is_play_against((2, 3), plan, (1, 1, 0), value), against)
        for told in ((0, 1, 1), (2, 1, 2), (1, 2, 0), (2, 0, 1), (0, 0, 1)):
            self.assertIs(is_play_against((2, 3), plan, (0, 0, 0), ("on", ("on", ("over", told)))), False)
        self.assertIs(is_play_against((2, 3), plan, (0, 0, 0), ("over", (0,))), False)
        self.assertIs(is_play_against((2, 3), plan, (0, 0, 0), ("over", (2,))), True)

    def test_numbers_below_zero_are_rounded_down(self):
        # 1 less 2 is -1; by 2 it is -1, and with one large piece brought 0 are there: one is asked.
        plan = ("ask", (0, 2), ("bring", (1, 0), ("ask", (1, 0), END)))
        self.assertIs(is_play_against((2,), plan, (0, 1), ("on", ("on", ("over", (1, 0, 0))))), True)
        self.assertIs(is_play_against((2,), plan, (0, 2), ("on", ("on", ("over", (1, 0, 0))))), False)
        self.assertIs(is_play_against((2,), plan, (0, 1), ("over", (1,))), True)

    def test_what_is_lacking_at_a_lesser_unit_counts_at_each_greater_one(self):
        # The small piece takes the large one; a middle piece does not bring it back.
        plan = ("ask", (0, 0, 1), ("bring", (0, 1, 0), ("ask", (1, 0, 0), END)))
        play = play_against((2, 3), plan, (1, 0, 0))
        self.assertTrue(is_plain_against((2, 3), plan, (1, 0, 0), play))
        self.assertEqual(play, ("on", ("on", ("over", (2, 0, 0)))))

    def test_only_an_ask_is_over(self):
        plan = ("ask", (0, 2), ("bring", (0, 1), END))
        for told in ((1, 1), (1, 0), (0, 0), (1,)):
            self.assertIs(is_play_against((2,), plan, (0, 0), ("on", ("over", told))), False)
        self.assertIs(is_play_against((2,), plan, (0, 0), ("over", (1,))), True)
        self.assertIs(is_play_against((2,), plan, (0, 0), ("on", ("on", ("over", (1, 1))))), False)

    def test_choices(self):
        either = ("either", ("ask", (0, 1), END), ("ask", (1, 0), END))
        self.assertIs(is_play_against((2,), either, (0, 1), ("second", ("over", (0,)))), True)
        self.assertIs(is_play_against((2,), either, (0, 1), ("first", ("over", (1,)))), False)
        self.assertEqual(play_against((2,), either, (0, 1))[0], "second")
        ours = ("ours",) + either[1:]
        self.assertIs(is_play_against((2,), ours, (0, 0), ("both", ("over", (1,)), ("over", (0,)))), True)
        self.assertIs(is_play_against((2,), ours, (0, 1), ("both", ("over", (1,)), ("over", (0,)))), False)
        self.assertIs(is_play_against((2,), ours, (0, 0), ("first", ("over", (1,)))), False)
        self.assertIs(is_play_against((2,), either, (0, 0), ("both", ("over", (1,)), ("over", (0,)))), False)
        for value in (("over", ()), ("on", ("over", ())), "over", ("on",), ("first", ("over", (0,)))):
            self.assertIs(is_play_against((2,), END, (0, 0), value), False)

    def test_great_numbers(self):
        plan = ask_line([(MOST, MOST)] * 7, "bring", ask_line([(MOST, MOST)] * 8))
        play = play_against((10,), plan, (MOST, MOST - 1))
        self.assertEqual(play, ("on", ("on", ("on", ("on", ("on", ("on", ("on", ("on", ("on", ("on", ("on", (
            "on", ("on", ("on", ("over", (1,) * 15))))))))))))))))
        self.assertIs(is_play_against((10,), plan, (MOST, MOST - 1), play), True)
        self.assertIs(is_play_against((10,), plan, (MOST, MOST), play), False)
        self.assertEqual(size_and_depth(plan)[1], 16)

    def test_values_of_every_kind(self):
        self.judges(is_play_against, ("on", ("on", ("over", (1, 0, 0)))), (2,), EXAMPLE, (1, 0))
        plan = ("either", END, ("ours", ("ask", (1, 0), END), ("bring", (0, 1), ("ask", (1, 1), END))))
        good = ("second", ("both", ("over", (0,)), ("on", ("over", (1, 1)))))
        self.judges(is_play_against, good, (2,), plan, (0, 1))
        deep = ("over", (0,))
        for _ in range(3000):
            deep = ("on", deep)
        for value in (deep, good[1], ("second", good), ("over", (0,)), ("on", ("over", (1, 0)))):
            self.assertIs(is_play_against((2,), plan, (0, 1), value), False)
        for told in ((1, 0), (1, 0, 0, 0), (), (1, 0, -1), (2, 1, 0), (1, 0, True), (10 ** 70, 0, 0)):
            self.assertIs(is_play_against((2,), EXAMPLE, (1, 0), ("on", ("on", ("over", told)))), False)
        for value in (*PAPERS, *spoilt(good)):
            self.assertIs(is_play_against((2,), plan, (1, 1), value), False)


class Parameters(YardCase):
    def test_in_their_order(self):
        self.raises(BadPlan, {"path": ()}, played, (2,), None, None, None)
        self.raises(BadRow, {"value": (0,)}, played, (2,), END, (0,), None)
        self.raises(BadSteps, {"place": 0}, played, (2,), END, (0, 0), [])
        for function in (strategy, play_against):
            self.raises(TooGreat, {"most": 16}, function, (2,), plan_line(17, None), None)
            self.raises(BadRow, {"value": None}, function, (2,), OURS, None)

    def test_a_stock_serves_an_ask_alone(self):
        for units, rows in units_with_rows(5):
            for stock, row in itertools.product(rows, rows):
                plan = ("ask", row, END)
                if serves(units, stock, row):
                    self.assertEqual(strategy(units, plan, stock), plan)
                    self.assertEqual(played(units, plan, stock, ()), ((2,), best_left(units, stock, row)))
                else:
                    self.assertEqual(played(units, plan, stock, ()), ((), stock))
                    self.assertEqual(play_against(units, plan, stock)[0], "over")


if __name__ == "__main__":
    unittest.main()
