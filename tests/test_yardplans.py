"""Yard plans: asks of single pieces at yards, served out of them or out of yards above: point 39."""

import itertools
import random
import unittest

from stairyard.errors import BadParameter, BadPlan, BadRows, NoRow, TooGreat
from stairyard.plans import plan_stocks
from stairyard.yardplans import (
    is_yard_strategy, need_yard_plan, root_stocks, yard_lives, yard_stocks, yard_strategy)
from stairyard.yards import needs
from tests.games import balanced, put_last
from tests.tools import (
    PAPERS, SMALL_UNITS, YardCase, add, left_over, lies_within, rows_to, spoilt, swapped)
from tests.wrongs import END, YARDS, full_plan, plan_line, wrong_yard_plan, wrong_yards, zero_row

MOST = 10 ** 60
ALL_YARDS = ((), (0,), (0, 0), (0, 1), (0, 0, 0), (0, 0, 1), (0, 0, 2), (0, 1, 0), (0, 1, 1), (0, 1, 2))


def up_from(yards, yard):
    return [yard] + ([] if yard == 0 else up_from(yards, yards[yard - 1]))


def piece_of(units, unit):
    return swapped(zero_row(units), unit, 1)


def lives_by_play(units, yards, plan, stocks, known):
    """Whether all asks can be served, trying each yard that may serve and each way to cut there."""
    key = (plan, stocks)
    if key not in known:
        known[key] = lives_anew(units, yards, plan, stocks, known)
    return known[key]


def lives_anew(units, yards, plan, stocks, known):
    word = plan[0]
    if word == "end":
        return True
    if word == "ask":
        return any(lives_by_play(units, yards, plan[3], swapped(stocks, server, row), known)
                   for server in up_from(yards, plan[1])
                   for row in left_over(units, stocks[server], piece_of(units, plan[2])))
    if word == "bring":
        brought = swapped(stocks, plan[1], add(stocks[plan[1]], plan[2]))
        return lives_by_play(units, yards, plan[3], brought, known)
    both = [lives_by_play(units, yards, part, stocks, known) for part in plan[1:]]
    return all(both) if word == "either" else any(both)


def serves_as_told(units, plan, stocks):
    """Whether all asks can be served out of just the yards that they tell, whatever the world chooses."""
    word = plan[0]
    if word == "end":
        return True
    if word == "ask":
        rows = left_over(units, stocks[plan[1]], piece_of(units, plan[2]))
        return any(serves_as_told(units, plan[3], swapped(stocks, plan[1], row)) for row in rows)
    if word == "bring":
        return serves_as_told(units, plan[3], swapped(stocks, plan[1], add(stocks[plan[1]], plan[2])))
    return all(serves_as_told(units, part, stocks) for part in plan[1:])


def strategies_of(yards, plan):
    """All plans with one plan in the place of each ours, and a yard that may serve in that of each asked one."""
    word = plan[0]
    if word == "end":
        return [plan]
    if word == "ours":
        return strategies_of(yards, plan[1]) + strategies_of(yards, plan[2])
    if word == "either":
        return [(word, one, other) for one in strategies_of(yards, plan[1]) for other in strategies_of(yards, plan[2])]
    behind = strategies_of(yards, plan[3])
    if word == "bring":
        return [(*plan[:3], other) for other in behind]
    return [(word, server, plan[2], other) for server in up_from(yards, plan[1]) for other in behind]


def some_plan(chance, units, yards, rows, deep):
    word = chance.choice(("ask", "ask", "ask", "bring", "either", "ours")) if deep > 1 else "end"
    if word == "end":
        return END
    yard = chance.randrange(len(yards) + 1)
    if word == "ask":
        return (word, yard, chance.randrange(len(units) + 1), some_plan(chance, units, yards, rows, deep - 1))
    if word == "bring":
        return (word, yard, chance.choice(rows), some_plan(chance, units, yards, rows, deep - 1))
    return (word, *[some_plan(chance, units, yards, rows, chance.randrange(1, deep)) for _ in range(2)])


def small_plans(many, seed, deep=4):
    chance = random.Random(seed)
    for units in SMALL_UNITS:
        rows = rows_to(units, 4)
        for number in range(many):
            yards = ALL_YARDS[number % len(ALL_YARDS)]
            yield units, yards, some_plan(chance, units, yards, rows[:3] + rows[-1:], deep)


def some_stocks(units, yards, most, many, seed):
    """Chosen tuples of small stocks."""
    chance = random.Random(seed)
    rows = rows_to(units, most)
    return [tuple(chance.choice(rows) for _ in range(len(yards) + 1)) for _ in range(many)]


def all_within(units, ones, others):
    return all(lies_within(units, one, other) for one, other in zip(ones, others))


def asks_of(pieces, last=END):
    """A plan of asks (yard, unit), one behind the other."""
    for yard, unit in reversed(pieces):
        last = ("ask", yard, unit, last)
    return last


def one_of(pieces):
    """A plan in which one of some asks (yard, unit, how often) is ours to choose."""
    return balanced("ours", [asks_of([(yard, unit)] * many) for yard, unit, many in pieces])


class NeedYardPlan(YardCase):
    def test_good_ones(self):
        for units, yards, plan in small_plans(30, 51):
            self.assertEqual(need_yard_plan(units, yards, plan), plan)
            self.made_of_tuples(plan)
        great = ("bring", 3, (MOST, MOST), ("ask", 3, 1, END))
        self.assertEqual(need_yard_plan((2,), (0, 1, 2), great), great)
        self.raises(BadPlan, {"path": ()}, need_yard_plan, (2,), (0, 1), great)

    def test_all_yards(self):
        for many in range(4):
            for yards in itertools.product(range(-1, 5), repeat=many):
                if yards in ALL_YARDS:
                    self.assertEqual(need_yard_plan((2,), yards, END), END)
                else:
                    self.raises(BadParameter, {"value": yards}, need_yard_plan, (2,), yards, None)
        self.raises(BadParameter, {"value": (0,) * 4}, need_yard_plan, (2,), (0,) * 4, END)

    def test_sixteen_and_seventeen_deep(self):
        for plan in (asks_of([(0, 0)] * 15), plan_line(16, END)):
            self.assertEqual(need_yard_plan((2,), (), plan), plan)
        for plan in (asks_of([(0, 0)] * 16), plan_line(17, END), asks_of([(0, 0)] * 16, None)):
            self.raises(TooGreat, {"most": 16}, need_yard_plan, (2,), (), plan)
        self.raises(BadPlan, {"path": (3,) * 15}, need_yard_plan, (2,), (), asks_of([(0, 0)] * 15, None))

    def test_sixty_and_sixty_one_parts(self):
        sixty = ("ours", full_plan(5), ("ours", plan_line(13, ("ask", 0, 0, END)), END))
        self.assertEqual(need_yard_plan((2,), (), sixty), sixty)
        self.raises(TooGreat, {"most": 60}, need_yard_plan, (2,), (), put_last(full_plan(5), full_plan(2)))
        more = ("ours", full_plan(5), ("ours", plan_line(13, ("ask", 0, 0, END)), ("ask", 0, 0, END)))
        self.raises(TooGreat, {"most": 60}, need_yard_plan, (2,), (), more)

    def test_wrong(self):
        for units in ((), (2,), (2, 3)):
            row = zero_row(units)
            self.wrong_each(need_yard_plan, ("yards", "yard plan"), units, YARDS, END)
            self.wrong_each(yard_stocks, ("yards", "yard plan"), units, YARDS, END)
            for function in (yard_lives, root_stocks, yard_strategy):
                self.wrong_each(function, ("yards", "yard plan", "stocks"), units, YARDS, END, (row,) * 3)
            self.wrong_each(is_yard_strategy, ("yards", "yard plan", "stocks", None), units, YARDS, END, (row,) * 3, None)
            self.assertTrue(len(list(wrong_yard_plan(units))) > 100 and len(list(wrong_yards(units))) > 20)
        # A plan without yards, or with other units, is none here.
        self.raises(BadPlan, {"path": ()}, need_yard_plan, (2,), (0,), ("ask", (0, 1), END))
        self.raises(BadPlan, {"path": (3,)}, need_yard_plan, (2,), (0,), ("ask", 1, 1, ("bring", 1, (1,), END)))
        self.raises(BadRows, {"place": ()}, yard_lives, (2,), (), END, ())


class Stocks(YardCase):
    def test_by_all_play(self):
        for units, yards, plan in small_plans(30, 52):
            told = yard_stocks(units, yards, plan)
            self.made_of_tuples(told)
            self.assertEqual(sorted(set(told)), list(told))
            for one, other in itertools.permutations(told, 2):
                self.assertFalse(all_within(units, one, other))
            known = {}
            for stocks in [*some_stocks(units, yards, 3, 25, 53), *told]:
                enough = lives_by_play(units, yards, plan, stocks, known)
                self.assertEqual(enough, any(all_within(units, least, stocks) for least in told))
                self.assertIs(yard_lives(units, yards, plan, stocks), enough)

    def test_small_ones(self):
        self.assertEqual(yard_stocks((2,), (), END), (((0, 0),),))
        self.assertEqual(yard_stocks((2,), (0,), ("ask", 1, 1, END)), (((0, 0), (0, 1)), ((0, 1), (0, 0))))
        self.assertEqual(yard_stocks((2,), (0,), ("ask", 0, 1, END)), (((0, 1), (0, 0)),))
        self.assertEqual(yard_stocks((2,), (0, 0), ("ask", 2, 0, END)),
                         (((0, 0), (0, 0), (1, 0)), ((1, 0), (0, 0), (0, 0))))
        self.assertEqual(len(yard_stocks((2,), (0, 1, 2), ("ask", 3, 0, END))), 4)
        plan = ("bring", 1, (0, 1), ("ask", 1, 0, END))
        # One small piece is not enough to be a large one: it is of no use here.
        self.assertEqual(yard_stocks((2,), (0,), plan), (((0, 0), (1, 0)), ((1, 0), (0, 0))))
        self.assertEqual(yard_stocks((2,), (0,), ("bring", 1, (1, 0), ("ask", 1, 0, END))), (((0, 0), (0, 0)),))
        self.assertEqual(yard_stocks((2,), (0,), ("bring", 0, (1, 0), ("ask", 1, 0, END))), (((0, 0), (0, 0)),))

    def test_one_yard_is_a_plan(self):
        for units, yards, plan in small_plans(40, 54):
            if yards == ():
                whole = one_yard_plan(units, plan)
                self.assertEqual(yard_stocks(units, (), plan), tuple((row,) for row in plan_stocks(units, whole)))

    def test_forty_and_more(self):
        # Asks at the yard 1 are parted between it and the root, at the yard 2 of a line between three yards.
        self.assertEqual(len(yard_stocks((2,), (0,), asks_of([(1, 1)] * 15))), 16)
        self.assertEqual(len(yard_stocks((2,), (0, 1), asks_of([(2, 1)] * 7))), 36)
        self.raises(TooGreat, {"most": 40}, yard_stocks, (2,), (0, 1), asks_of([(2, 1)] * 8))
        # Eight ways for small pieces at the yard 1, beside five for large ones at the yard 2.
        forty = asks_of([(1, 1)] * 7, asks_of([(2, 0)] * 4))
        self.assertEqual(len(yard_stocks((2,), (0, 0), forty)), 40)
        # All at the root are 4 large and 7 small pieces: more than 5 large ones, and these are more, too.
        more = ("ours", forty, asks_of([(0, 0)] * 5))
        self.raises(TooGreat, {"most": 40}, yard_stocks, (2,), (0, 0), more)
        self.assertEqual(len(yard_stocks((2,), (0, 0), ("ours", forty, asks_of([(0, 0)] * 4 + [(0, 1)] * 7)))), 40)
        self.assertEqual(yard_stocks((2,), (0, 0), ("ours", END, forty)), (((0, 0),) * 3,))

    def test_more_than_forty_in_a_part(self):
        more = ("ours", asks_of([(1, 1)] * 7, asks_of([(2, 0)] * 4)), asks_of([(0, 0)] * 5))
        stocks = ((MOST, 0),) * 3
        for part in (more, ("ours", END, more), ("either", more, END), ("ask", 0, 0, more), ("bring", 0, (MOST, 0), more)):
            self.raises(TooGreat, {"most": 40}, yard_stocks, (2,), (0, 0), part)
            for function in (yard_lives, root_stocks, yard_strategy):
                self.raises(TooGreat, {"most": 40}, function, (2,), (0, 0), part, stocks)
                self.raises(TooGreat, {"most": 40}, function, (2,), (0, 0), part, ((0, 0),) * 3)
                self.raises(BadRows, {"place": (2,)}, function, (2,), (0, 0), part, ((0, 0), (0, 0), (0,)))
            self.assertIs(is_yard_strategy((2,), (0, 0), part, stocks, END), part[1] == END)

    def test_great_numbers(self):
        plan = ("bring", 1, (MOST, MOST), ("ask", 1, 1, END))
        self.assertIs(yard_lives((10,), (0,), plan, ((MOST, MOST), (MOST, MOST))), True)
        self.assertEqual(yard_stocks((10,), (0,), plan), (((0, 0), (0, 0)),))
        self.assertEqual(root_stocks((10,), (0,), plan, ((MOST, MOST), (0, 0))), ((0, 0),))


def one_yard_plan(units, plan):
    """The plan of asked rows that a plan for the root alone is."""
    if plan[0] == "end":
        return plan
    if plan[0] in ("ask", "bring"):
        row = piece_of(units, plan[2]) if plan[0] == "ask" else plan[2]
        return (plan[0], row, one_yard_plan(units, plan[3]))
    return (plan[0], *[one_yard_plan(units, part) for part in plan[1:]])


class Root(YardCase):
    def test_by_all_play(self):
        for units, yards, plan in small_plans(30, 55):
            rows = rows_to(units, 4)
            known = {}
            for stocks in some_stocks(units, yards, 3, 4, 56):
                told = root_stocks(units, yards, plan, stocks)
                self.made_of_tuples(told)
                self.assertEqual(sorted(set(told)), list(told))
                for row in rows:
                    enough = lives_by_play(units, yards, plan, swapped(stocks, 0, row), known)
                    self.assertEqual(enough, any(lies_within(units, least, row) for least in told))
                for one, other in itertools.permutations(told, 2):
                    self.assertFalse(lies_within(units, one, other))

    def test_asks_alone_are_a_tree(self):
        chance = random.Random(57)
        for units in SMALL_UNITS:
            rows = rows_to(units, 4)
            for number in range(40):
                yards = ALL_YARDS[number % len(ALL_YARDS)]
                # Three pieces at the last of four yards in a line would be served in 64 ways.
                pieces = [(chance.randrange(len(yards) + 1), chance.randrange(len(units) + 1))
                          for _ in range(2 if len(yards) == 3 else 3)]
                stocks = (zero_row(units), *[chance.choice(rows) for _ in yards])

                def tree_at(yard):
                    own = [piece_of(units, unit) for at, unit in pieces if at == yard]
                    under = [tree_at(at + 1) for at, above in enumerate(yards) if above == yard]
                    return (stocks[yard], add(zero_row(units), *own), tuple(under))
                need = needs(units, tree_at(0))[0]
                for turned in itertools.permutations(pieces):
                    self.assertEqual(root_stocks(units, yards, asks_of(turned), stocks), (need,))

    def test_small_ones(self):
        plan = ("ask", 1, 1, ("ask", 0, 0, END))
        self.assertEqual(root_stocks((2,), (0,), plan, ((9, 9), (0, 0))), ((1, 1),))
        self.assertEqual(root_stocks((2,), (0,), plan, ((0, 0), (0, 1))), ((1, 0),))
        self.assertEqual(root_stocks((2,), (0,), ("ours", plan, ("ask", 0, 1, ("ask", 0, 1, ("ask", 0, 1, END)))),
                                     ((0, 0), (0, 1))), ((0, 3), (1, 0)))


class YardStrategies(YardCase):
    def test_one_that_serves(self):
        for units, yards, plan in small_plans(30, 58):
            known = {}
            for stocks in some_stocks(units, yards, 4, 8, 59):
                if lives_by_play(units, yards, plan, stocks, known):
                    told = yard_strategy(units, yards, plan, stocks)
                    self.made_of_tuples(told)
                    self.assertIn(told, strategies_of(yards, plan))
                    self.assertTrue(serves_as_told(units, told, stocks))
                    self.assertIs(is_yard_strategy(units, yards, plan, stocks, told), True)
                else:
                    self.raises(NoRow, {}, yard_strategy, units, yards, plan, stocks)

    def test_all_of_them(self):
        for units, yards, plan in small_plans(20, 60):
            values = strategies_of(yards, plan)
            others = [END, plan, ("ask", 0, 0, END), ("bring", 0, zero_row(units), END), ("either", END, END)]
            for stocks in some_stocks(units, yards, 4, 3, 61):
                serving = 0
                for value in [*values, *others]:
                    told = value in values and serves_as_told(units, value, stocks)
                    serving += told
                    self.assertIs(is_yard_strategy(units, yards, plan, stocks, value), told)
                self.assertEqual(serving > 0, lives_by_play(units, yards, plan, stocks, {}))

    def test_small_ones(self):
        plan = ("ask", 1, 1, ("ask", 1, 0, END))
        stocks = ((0, 1), (1, 0))
        self.assertEqual(yard_strategy((2,), (0,), plan, stocks), ("ask", 0, 1, ("ask", 1, 0, END)))
        self.assertIs(is_yard_strategy((2,), (0,), plan, stocks, plan), False)
        self.assertIs(is_yard_strategy((2,), (0,), plan, ((1, 0), (0, 1)), ("ask", 1, 1, ("ask", 0, 0, END))), True)
        # A yard serves those under it, not those above or beside it.
        self.raises(NoRow, {}, yard_strategy, (2,), (0, 0), ("ask", 1, 1, END), ((0, 0), (0, 0), (5, 5)))
        self.raises(NoRow, {}, yard_strategy, (2,), (0,), ("ask", 0, 1, END), ((0, 0), (5, 5)))
        self.assertIs(is_yard_strategy((2,), (0, 0), ("ask", 1, 1, END), ((0, 0), (0, 0), (5, 5)),
                                       ("ask", 2, 1, END)), False)
        self.assertIs(is_yard_strategy((2,), (0, 1), ("ask", 1, 1, END), ((0, 0), (0, 0), (5, 5)),
                                       ("ask", 2, 1, END)), False)

    def test_forty_and_more_ways_to_judge(self):
        plan = asks_of([(2, 1)] * 15)
        self.raises(TooGreat, {"most": 40}, yard_strategy, (2,), (0, 1), plan, ((0, 0),) * 3)
        value = asks_of([(0, 1)] * 5 + [(1, 1)] * 5 + [(2, 1)] * 5)
        self.assertIs(is_yard_strategy((2,), (0, 1), plan, ((2, 1),) * 3, value), True)
        self.assertIs(is_yard_strategy((2,), (0, 1), plan, ((2, 1), (2, 0), (2, 1)), value), False)

    def test_values_of_every_kind(self):
        plan = ("ours", ("ask", 1, 1, ("either", ("bring", 1, (0, 1), END), ("ask", 0, 0, END))), END)
        good = ("ask", 0, 1, ("either", ("bring", 1, (0, 1), END), ("ask", 0, 0, END)))
        stocks = ((1, 1), (0, 0))
        self.judges(is_yard_strategy, good, (2,), (0,), plan, stocks)
        self.judges(is_yard_strategy, END, (2,), (0,), plan, stocks)
        deep = END
        for _ in range(3000):
            deep = ("ask", 0, 1, deep)
        for value in (deep, plan, ("ask", 0, 1, END), ("ask", 2, *good[2:]), ("ask", -1, *good[2:]), good + (END,),
                      ("ask", 0, 0, good[3]), ("ask", 0, 1, ("either", ("bring", 0, (0, 1), END), good[3][2]))):
            self.assertIs(is_yard_strategy((2,), (0,), plan, stocks, value), False)
        for value in (*PAPERS, *spoilt(good)):
            self.assertIs(is_yard_strategy((2,), (0,), plan[1], ((0, 0), (0, 0)), value), False)


class OneOfSeveral(YardCase):
    def test_one_of_several_asks(self):
        plan = one_of([(0, 0, 1), (1, 0, 2), (1, 1, 3)])
        told = yard_stocks((2,), (0,), plan)
        for stocks in itertools.product(rows_to((2,), 4), repeat=2):
            enough = lives_by_play((2,), (0,), plan, stocks, {})
            self.assertEqual(enough, any(all_within((2,), least, stocks) for least in told))
        self.assertEqual(len(yard_stocks((2,), (0, 0, 0), asks_of([(0, 0), (1, 0), (2, 0), (3, 0)]))), 8)


if __name__ == "__main__":
    unittest.main()
