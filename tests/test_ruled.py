"""Losses of rules in worlds, tables without a loss, two rules beside each other: points 48 to 50."""

import itertools
import random
import unittest

from stairyard.errors import NoRow, TooGreat, Unlike
from stairyard.ruled import is_rule_loss, is_rule_table, rule_loss, rule_table, rules_compared
from stairyard.rules import best_rule, rule_flaw
from stairyard.worlds import outlives
from tests.test_rules import all_rules, plain_piece
from tests.tools import PAPERS, STRAY, YardCase, add, left_over, lies_within, rows_to, swapped, total_of
from tests.wrongs import zero_row

LARGE_FIRST = (((0, 0),), ((0, 1), (1, 1)))
TWO_ASKS = (2, ((0, ("ask", (0, 1)), 1), (1, ("ask", (1, 0)), 0)))
# Opens pieces of the unit 0 ahead of those of the unit 1, but only where no least piece is there.
SMALL_LATE = (((0, 0),), ((1, 1), (0, 1)), ((2, 2), (0, 1), (1, 2)))


def by_rule(units, rule, row, deed):
    """What a rule has left behind a deed, None if it refuses."""
    if deed[0] == "bring":
        return add(row, deed[1])
    for unit, many in enumerate(deed[1] if deed[0] == "ask" else ()):
        for _ in range(many):
            row = plain_piece(units, rule, row, unit)
            if row is None:
                return None
    return row


def by_best(units, row, deed):
    """The rest behind a deed, None if an ask is not served: of all that can be left the greatest row."""
    if deed[0] == "bring":
        return add(row, deed[1])
    if deed[0] == "pass":
        return row
    if total_of(units, row) > 12:
        return quick_best(units, row, deed)
    found = left_over(units, row, deed[1])
    greatest = [one for one in found if all(lies_within(units, other, one) for other in found)]
    return greatest[0] if greatest else None


def quick_best(units, row, deed):
    """The same, piece by piece with the best rule, for rows of many pieces."""
    return by_rule(units, best_rule(units), row, deed)


def walks_of(world, most):
    """All walks from place 0 of at most so many steps, shorter ones first, ascending."""
    walks = [((), 0)]
    for _ in range(most + 1):
        yield from walks
        walks = [((*walk, index), to) for walk, place in walks
                 for index, (source, _, to) in enumerate(world[1]) if source == place]


def is_plain_loss(units, world, rule, stock, walk):
    mine, best = stock, stock
    for number, index in enumerate(walk):
        deed = world[1][index][1]
        mine, best = by_rule(units, rule, mine, deed), by_best(units, best, deed)
        if best is None or mine is None and number < len(walk) - 1:
            return False
    return bool(walk) and mine is None


def plain_table(units, world, rule, stock, most):
    """All triples that are met, None if they are more than `most` or the rule has a loss."""
    met = {(0, stock, stock)}
    fresh = list(met)
    while fresh:
        found = set()
        for place, mine, best in fresh:
            for source, deed, to in world[1]:
                left = quick_best(units, best, deed) if source == place else None
                if left is not None:
                    found.add((to, by_rule(units, rule, mine, deed), left))
        fresh = list(found - met)
        met |= found
        if len(met) > most or any(mine is None for _, mine, _ in found):
            return None
    return tuple(sorted(met))


def plain_compared(units, world, one, other, stock, most):
    """The first walks, of at most so many steps, that one alone and other alone refuse at last."""
    found = [None, None]
    for walk, _ in walks_of(world, most):
        both = [stock, stock]
        for index in walk[:-1]:
            both = [None if row is None else by_rule(units, rule, row, world[1][index][1])
                    for rule, row in zip((one, other), both)]
        if walk and None not in both:
            ends = [by_rule(units, rule, row, world[1][walk[-1]][1]) for rule, row in zip((one, other), both)]
            for which in (0, 1):
                if ends[which] is None and ends[1 - which] is not None and found[which] is None:
                    found[which] = walk
    return tuple(found)


def sample_worlds(units, many, seed):
    """So many worlds of up to three places, in which not much more is brought than asked."""
    chosen = random.Random(seed)
    rows = [row for row in rows_to(units, 4) if sum(row)]
    for _ in range(many):
        places = chosen.randint(1, 3)
        steps = []
        for _ in range(chosen.randint(1, 4)):
            word = chosen.choice(("ask", "ask", "ask", "bring", "pass"))
            deed = ("pass",) if word == "pass" else (word, chosen.choice(rows))
            steps.append((chosen.randrange(places), deed, chosen.randrange(places)))
        yield (places, tuple(steps))


def late_world(many):
    """Least pieces are asked, or once a large one; from (1, 1, MANY) the rule refuses this behind MANY + 1 steps."""
    return (2, ((0, ("ask", (0, 0, 1)), 0), (0, ("ask", (1, 0, 0)), 1))), (1, 1, many)


class Losses(YardCase):
    def test_example(self):
        self.assertEqual(rule_loss((2,), TWO_ASKS, LARGE_FIRST, (1, 1)), (0, 1))
        self.judges(is_rule_loss, (0, 1), (2,), TWO_ASKS, LARGE_FIRST, (1, 1))
        self.raises(NoRow, {}, rule_loss, (2,), TWO_ASKS, LARGE_FIRST, (0, 5))
        self.assertEqual(rule_table((2,), TWO_ASKS, LARGE_FIRST, (0, 5)), ((0, (0, 5), (0, 5)), (1, (0, 4), (0, 4))))

    def check_world(self, units, world, rule, stock):
        walks = [walk for walk, _ in walks_of(world, 4)]
        losses = [walk for walk in walks if is_plain_loss(units, world, rule, stock, walk)]
        for walk in walks:
            self.assertIs(is_rule_loss(units, world, rule, stock, walk), walk in losses)
        try:
            loss = rule_loss(units, world, rule, stock)
        except NoRow:
            self.assertEqual(losses, [])
            table = rule_table(units, world, rule, stock)
            self.made_of_tuples(table)
            self.assertIs(is_rule_table(units, world, rule, stock, table), True)
            self.assertEqual(table, plain_table(units, world, rule, stock, 2000))
            for _, mine, best in table:
                self.assertTrue(lies_within(units, mine, best))
            return None
        except TooGreat:
            self.assertEqual(losses, [])
            self.raises(TooGreat, {"most": 2000}, rule_table, units, world, rule, stock)
            self.assertIsNone(plain_table(units, world, rule, stock, 2000))
            return None
        self.made_of_tuples(loss)
        self.assertTrue(is_plain_loss(units, world, rule, stock, loss))
        if losses:
            self.assertEqual(loss, losses[0])
        self.raises(Unlike, {"value": loss}, rule_table, units, world, rule, stock)
        return loss

    def test_worlds(self):
        for units, many in (((2,), 60), ((3,), 30), ((2, 2), 40), ((2, 3), 40), ((), 20)):
            rules = all_rules(units)
            found = 0
            for number, world in enumerate(sample_worlds(units, many, many)):
                for rule in (rules[number % len(rules)], rules[-1 - number % len(rules)]):
                    for stock in (rows_to(units, 6)[-1 - number % 7], (2,) + (1,) * len(units)):
                        with self.subTest(units=units, world=world, rule=rule, stock=stock):
                            found += self.check_world(units, world, rule, stock) is not None
            self.assertTrue(found if units else found == 0)

    def test_the_best_rule_has_no_loss(self):
        for units in ((2,), (2, 3)):
            for world in sample_worlds(units, 30, 5):
                stock = (1,) * (len(units) + 1)
                try:
                    table = rule_table(units, world, best_rule(units), stock)
                except TooGreat:
                    self.raises(TooGreat, {"most": 2000}, rule_loss, units, world, best_rule(units), stock)
                    continue
                self.raises(NoRow, {}, rule_loss, units, world, best_rule(units), stock)
                for _, mine, best in table:
                    self.assertEqual(mine, best)

    def test_flaws_are_losses(self):
        for units in ((2,), (2, 3), (2, 2, 2)):
            for rule in all_rules(units)[::1 if len(units) < 3 else 97]:
                if rule != best_rule(units):
                    stock, first, second = rule_flaw(units, rule)
                    world = (3, ((0, ("ask", first), 1), (1, ("ask", second), 2)))
                    self.assertIn(rule_loss(units, world, rule, stock), ((0,), (0, 1)))
                    one, other = rules_compared(units, world, rule, best_rule(units), stock)
                    self.assertEqual((one, other), (rule_loss(units, world, rule, stock), None))

    def test_steps_are_told_by_their_least_index(self):
        ask, pass_on = ("ask", (0, 1)), ("pass",)
        world = (2, ((0, pass_on, 0), (0, ask, 1), (0, ask, 1), (1, ("ask", (1, 0)), 1), (1, ("ask", (1, 0)), 0)))
        self.assertEqual(rule_loss((2,), world, LARGE_FIRST, (1, 1)), (1, 3))
        for walk, good in (((2, 4), True), ((0, 0, 1, 3), True), ((1,), False), ((1, 3, 3), False), ((3,), False)):
            self.assertIs(is_rule_loss((2,), world, LARGE_FIRST, (1, 1), walk), good)
        # The best rule does not serve the last ask either.
        self.assertIs(is_rule_loss((2,), world, LARGE_FIRST, (0, 1), (1, 3)), False)

    def test_long_losses(self):
        for many in (0, 1, 58, 70, 500):
            world, stock = late_world(many)
            loss = (0,) * (many + 1) + (1,)
            self.assertEqual(rule_loss((2, 2), world, SMALL_LATE, stock), loss)
            self.assertIs(is_rule_loss((2, 2), world, SMALL_LATE, stock, loss), True)
            self.assertIs(is_rule_loss((2, 2), world, SMALL_LATE, stock, loss[1:]), False)
            self.assertIs(is_rule_loss((2, 2), world, SMALL_LATE, stock, (0,) + loss), True)
            self.assertIs(is_rule_loss((2, 2), world, SMALL_LATE, stock, loss[:-1]), False)
        passing = (1, ((0, ("pass",), 0), (0, ("ask", (0, 1)), 0), (0, ("ask", (1, 0)), 0)))
        self.assertIs(is_rule_loss((2,), passing, LARGE_FIRST, (1, 1), (0,) * 5000 + (1,) + (0,) * 5000 + (2,)), True)
        self.assertIs(is_rule_loss((2,), passing, LARGE_FIRST, (1, 1), (0,) * 5000 + (1,) + (0,) * 5000), False)

    def test_two_thousand_triples(self):
        asks = (1, ((0, ("ask", (1,)), 0),))
        rule = best_rule(())
        self.raises(NoRow, {}, rule_loss, (), asks, rule, (1999,))
        table = rule_table((), asks, rule, (1999,))
        self.assertEqual(table, tuple((0, (k,), (k,)) for k in range(2000)))
        self.raises(TooGreat, {"most": 2000}, rule_loss, (), asks, rule, (2000,))
        self.raises(TooGreat, {"most": 2000}, rule_table, (), asks, rule, (2000,))
        self.assertIs(is_rule_table((), asks, rule, (1999,), table), True)
        self.assertIs(is_rule_table((), asks, rule, (2000,), (*table, (0, (2000,), (2000,)))), False)
        self.assertIs(is_rule_table((), asks, rule, (1999,), (*table, table[0])), False)
        brings = (1, ((0, ("bring", (1,)), 0),))
        self.raises(TooGreat, {"most": 2000}, rule_loss, (), brings, rule, (0,))
        self.assertIs(is_rule_table((), brings, rule, (0,), table), False)

    def test_a_loss_ahead_of_the_last_triple_that_may_be_met(self):
        # Behind MANY + 1 least pieces two triples are met for each of them, and the first one, and then the loss.
        world, stock = late_world(998)
        self.assertEqual(len(rule_loss((2, 2), world, SMALL_LATE, stock)), 1000)
        world, stock = late_world(999)
        met = plain_met_ahead(world, stock)
        self.assertGreater(met, 1999)
        found = []
        for many in range(990, 1003):
            world, stock = late_world(many)
            if plain_met_ahead(world, stock) <= 2000:
                self.assertEqual(len(rule_loss((2, 2), world, SMALL_LATE, stock)), many + 2)
            else:
                self.raises(TooGreat, {"most": 2000}, rule_loss, (2, 2), world, SMALL_LATE, stock)
                self.raises(TooGreat, {"most": 2000}, rule_table, (2, 2), world, SMALL_LATE, stock)
            found.append(plain_met_ahead(world, stock))
        self.assertTrue({1999, 2001} <= set(found) or {2000, 2002} <= set(found))
        # A world without end, in which a loss is near.
        endless = (1, ((0, ("bring", (0, 1)), 0), (0, ("ask", (0, 1)), 0), (0, ("ask", (1, 0)), 0)))
        self.assertEqual(rule_loss((2,), endless, LARGE_FIRST, (1, 0)), (0, 1, 2))
        self.raises(Unlike, {"value": (0, 1, 2)}, rule_table, (2,), endless, LARGE_FIRST, (1, 0))

    def test_many_pieces(self):
        for units in ((), (2,), (10, 10, 10)):
            row = zero_row(units)
            for unit in range(len(row)):
                thousand = (1, ((0, ("ask", swapped(row, unit, 1000)), 0), (0, ("bring", (10 ** 60,) * len(row)), 0)))
                over = (1, ((0, ("ask", swapped(row, unit, 1001)), 0),))
                # Brings have as many pieces as they like, asks that nobody comes to too many all the same.
                apart = (2, ((1, ("ask", swapped(row, unit, 1001)), 1),))
                rule = best_rule(units)
                stock = (1000,) + row[1:]
                self.raises(TooGreat, {"most": 2000}, rule_loss, units, thousand, rule, stock)
                calm = (2, ((0, ("ask", swapped(row, unit, 1000)), 1),))
                self.raises(NoRow, {}, rule_loss, units, calm, rule, stock)
                self.assertEqual(len(rule_table(units, calm, rule, stock)), 2)
                for world in (over, apart):
                    for function in (rule_loss, rule_table):
                        self.raises(TooGreat, {"most": 1000}, function, units, world, rule, stock)
                    for function in (is_rule_loss, is_rule_table):
                        self.raises(TooGreat, {"most": 1000}, function, units, world, rule, stock, None)
                    self.raises(TooGreat, {"most": 1000}, rules_compared, units, world, rule, rule, stock)
        spread = (1, ((0, ("ask", (500, 501)), 0),))
        self.raises(TooGreat, {"most": 1000}, rule_loss, (2,), spread, LARGE_FIRST, (0, 0))
        self.raises(NoRow, {}, rule_loss, (2,), (1, ((0, ("ask", (500, 500)), 0),)), LARGE_FIRST, (0, 0))

    def test_rules_piece_by_piece_with_many_pieces(self):
        for units in ((2,), (3, 2), (2, 2, 2)):
            rules = all_rules(units)
            for rule in rules[::1 if len(rules) < 30 else 131]:
                for many in (1, 5, 30):
                    ask = swapped(zero_row(units), len(units), many)
                    world = (3, ((0, ("ask", ask), 1), (1, ("ask", (1,) + (0,) * len(units)), 2)))
                    for stock in ((8,) + (0,) * len(units), (9,) + (3,) * len(units)):
                        mine = by_rule(units, rule, stock, ("ask", ask))
                        walk, _ = rules_compared(units, world, rule, best_rule(units), stock)
                        loss = is_plain_loss(units, world, rule, stock, (0, 1))
                        self.assertEqual(walk, (0, 1) if loss else None)
                        if not loss:
                            table = rule_table(units, world, rule, stock)
                            if mine is not None:
                                self.assertIn((1, mine), [triple[:2] for triple in table])

    def test_papers(self):
        for value in (*STRAY, *PAPERS, (0, 1, 0), (1, 0), (0, 0), (0,), (1,), (0, 2), (0, -1), (-2, -1), (0, True)):
            self.assertIs(is_rule_loss((2,), TWO_ASKS, LARGE_FIRST, (1, 1), value), False)
        self.assertIs(is_rule_loss((2,), TWO_ASKS, LARGE_FIRST, (1, 1), (0, 1)), True)

    def test_wrong(self):
        for units in ((), (2,), (2, 3)):
            row = zero_row(units)
            rule = best_rule(units)
            world = (2, ((1, ("ask", (1001,) + row[1:]), 1),))
            for function in (rule_loss, rule_table):
                self.wrong_each(function, ("world", "rule", "row"), units, world, rule, row)
            for function in (is_rule_loss, is_rule_table):
                self.wrong_each(function, ("world", "rule", "row", None), units, world, rule, row, None)
            self.wrong_each(rules_compared, ("world", "rule", "rule", "row"), units, world, rule, rule, row)


def plain_met_ahead(world, stock):
    """How many triples are met ahead of the loss, as the document tells the search."""
    units, rule = (2, 2), SMALL_LATE
    met = [(0, stock, stock)]
    there = set(met)
    at = 0
    while at < len(met):
        place, mine, best = met[at]
        at += 1
        for source, deed, to in world[1]:
            if source == place:
                left = quick_best(units, best, deed)
                after = by_rule(units, rule, mine, deed)
                if left is not None:
                    if after is None:
                        return len(met)
                    if (to, after, left) not in there:
                        there.add((to, after, left))
                        met.append((to, after, left))
    return len(met)


class Tables(YardCase):
    def test_order_and_repeated_triples_do_not_matter(self):
        table = rule_table((2,), TWO_ASKS, LARGE_FIRST, (0, 5))
        told = ((2,), TWO_ASKS, LARGE_FIRST, (0, 5))
        self.judges(is_rule_table, table, *told)
        for value in (table[::-1], table * 2, table + table[:1], table * 1000):
            self.assertIs(is_rule_table(*told, value), True)
        self.assertIs(is_rule_table(*told, table * 1000 + table[:1]), False)
        for value in ((), table[:1], table[1:], (*table, None), (*table, (2, (0, 4), (0, 4)))):
            self.assertIs(is_rule_table(*told, value), False)

    def test_more_triples_are_let_if_they_lead_to_some(self):
        told = ((2,), TWO_ASKS, LARGE_FIRST, (0, 5))
        table = rule_table(*told)
        more = (1, (0, 10 ** 70), (0, 10 ** 70))
        self.assertIs(is_rule_table(*told, (*table, more)), True)
        # From there a large piece is served, which leads to a triple that is lacking, or is refused by the rule.
        self.assertIs(is_rule_table(*told, (*table, (1, (1, 0), (1, 0)))), False)
        self.assertIs(is_rule_table(*told, (*table, (1, (1, 0), (1, 0)), (0, (0, 0), (0, 0)))), True)
        self.assertIs(is_rule_table(*told, (*table, (1, (0, 2), (1, 0)), (0, (0, 0), (0, 0)))), False)
        # What the best rule does not serve is not asked of the rule.
        self.assertIs(is_rule_table(*told, (*table, (1, (1, 0), (0, 9)))), True)

    def test_all_tables_have_the_met_triples(self):
        for units, seed in (((2,), 1), ((2, 2), 2), ((), 3)):
            for world in sample_worlds(units, 30, seed):
                for rule in all_rules(units)[::3]:
                    stock = (1,) + (2,) * len(units)
                    table = plain_table(units, world, rule, stock, 60)
                    if table is None:
                        continue
                    self.assertEqual(rule_table(units, world, rule, stock), table)
                    for at in range(len(table)):
                        less = table[:at] + table[at + 1:]
                        self.assertIs(is_rule_table(units, world, rule, stock, less), False)

    def test_a_stock_that_outlives_the_world(self):
        found = 0
        for units in ((2,), (2, 2)):
            for world in sample_worlds(units, 80, 9):
                for rule in all_rules(units)[::5]:
                    stock = (2,) + (1,) * len(units)
                    if outlives(units, world, stock):
                        table = plain_table(units, world, rule, stock, 200)
                        if table is not None:
                            # Without a loss the rule takes all asks of all runs.
                            for walk, _ in walks_of(world, 4):
                                row = stock
                                for index in walk:
                                    row = by_rule(units, rule, row, world[1][index][1])
                                    self.assertIsNotNone(row)
                            found += 1
        self.assertGreater(found, 10)

    def test_papers(self):
        for value in PAPERS:
            self.assertIs(is_rule_table((2,), TWO_ASKS, LARGE_FIRST, (0, 5), value), False)
        triple = (0, (0, 0), (0, 0))
        still = (1, ())
        self.assertIs(is_rule_table((2,), still, LARGE_FIRST, (0, 0), (triple,)), True)
        for value in ((0, (0, 0)), (0, (0, 0), (0, 0), 0), (1, (0, 0), (0, 0)), (0, (0, -1), (0, 0)), [0, (0, 0), (0, 0)],
                      (0, (0, 0), (0, 0, 0)), (False, (0, 0), (0, 0)), (0, [0, 0], (0, 0)), (0, (0, 0), (0, False))):
            self.assertIs(is_rule_table((2,), still, LARGE_FIRST, (0, 0), (triple, value)), False)


class Compared(YardCase):
    def test_example(self):
        best = best_rule((2,))
        self.assertEqual(rules_compared((2,), TWO_ASKS, LARGE_FIRST, best, (1, 1)), ((0, 1), None))
        self.assertEqual(rules_compared((2,), TWO_ASKS, best, LARGE_FIRST, (1, 1)), (None, (0, 1)))
        self.assertEqual(rules_compared((2,), TWO_ASKS, LARGE_FIRST, LARGE_FIRST, (1, 1)), (None, None))

    def test_worlds(self):
        both = 0
        for units, many in (((2,), 20), ((2, 2), 300), ((2, 3), 300)):
            rules = all_rules(units)
            for number, world in enumerate(sample_worlds(units, many, 3 * many)):
                one, other = rules[number % len(rules)], rules[(7 * number + 5) % len(rules)]
                stock = (1,) + (1 - number % 2,) + (0,) * (len(units) - 1)
                plain = plain_compared(units, world, one, other, stock, 4)
                with self.subTest(units=units, world=world, one=one, other=other):
                    try:
                        found = rules_compared(units, world, one, other, stock)
                    except TooGreat as error:
                        self.assertEqual(error.most, 2000)
                        self.assertIn(None, plain)
                        continue
                    both += None not in found
                    for told, walk in zip(found, plain):
                        self.assertTrue(told == walk or walk is None and len(told) > 4)
        self.assertGreater(both, 0)

    def test_both_walks(self):
        units = (2, 2)
        one = (((0, 0),), ((1, 1), (0, 1)), ((2, 2), (0, 1), (1, 2)))
        other = (((0, 0),), ((0, 1), (1, 1)), ((2, 2), (1, 2), (0, 1)))
        # `one` opens a large piece for a least one, `other` for a middle one.
        steps = ((0, ("ask", (0, 0, 1)), 1), (0, ("ask", (0, 1, 0)), 1), (1, ("ask", (1, 0, 0)), 2))
        self.assertEqual(rules_compared(units, (3, steps), one, other, (1, 1, 0)), ((0, 2), (1, 2)))
        self.assertEqual(rules_compared(units, (3, steps), other, one, (1, 1, 0)), ((1, 2), (0, 2)))
        self.made_of_tuples(rules_compared(units, (3, steps), one, other, (1, 1, 0)))
        # A world without end: both walks are found ahead of the 2,001st triple, or one of them alone.
        endless = (4, (*steps, (0, ("pass",), 3), (3, ("bring", (0, 0, 1)), 3)))
        self.assertEqual(rules_compared(units, endless, one, other, (1, 1, 0)), ((0, 2), (1, 2)))
        self.raises(TooGreat, {"most": 2000}, rules_compared, units, endless, one, best_rule(units), (1, 1, 0))
        self.assertEqual(rule_loss(units, endless, one, (1, 1, 0)), (0, 2))

    def test_what_one_rule_refuses_leads_nowhere(self):
        # Behind the ask that `one` refuses the other one would refuse something, but nobody comes to this.
        world = (4, ((0, ("ask", (0, 1)), 1), (1, ("ask", (1, 0)), 2), (2, ("ask", (1, 0)), 3)))
        self.assertEqual(rules_compared((2,), world, LARGE_FIRST, best_rule((2,)), (1, 1)), ((0, 1), None))
        self.assertEqual(rules_compared((2,), world, LARGE_FIRST, best_rule((2,)), (0, 0)), (None, None))

    def test_two_thousand_triples(self):
        asks = (1, ((0, ("ask", (1,)), 0),))
        rule = best_rule(())
        self.assertEqual(rules_compared((), asks, rule, rule, (1999,)), (None, None))
        self.raises(TooGreat, {"most": 2000}, rules_compared, (), asks, rule, rule, (2000,))


if __name__ == "__main__":
    unittest.main()
