"""Every listed function stands in its file, with its parameters: the headings of the interface."""

import importlib
import inspect
import unittest

TOLD = {
    "units": ("need_units(value)", "need_unit(units, value)", "sizes(units)"),
    "rows": (
        "need_row(units, value)", "need_rows(units, value)", "total(units, row)", "side_by_side(units, rows)",
        "stair_of(units, row)", "need_stair(units, value)", "row_of(units, stair)",
        "is_within(units, order, stock)", "full_unit(units, order, stock)"),
    "stairs": (
        "need_numbers(units, value)", "up(units, numbers)", "down(units, numbers)", "lack(units, order, stock)",
        "rest(units, stock, order)", "higher_of(units, one, other)", "lower_of(units, one, other)"),
    "between": (
        "stepped(units, row, steps)", "steps_apart(units, one, other)", "steps_between(units, one, other)"),
    "pieces": (
        "laying(units, stock, order)", "is_laying(units, stock, order, value)", "packed(units, blocks, order)",
        "is_packed(units, blocks, order, value)", "greatest_lot(units, stock, order)"),
    "cutting": (
        "cut_once(units, row, unit)", "cut_by(units, row, cuts)", "fewest_cuts(units, stock, order)",
        "cut_plan(units, stock, order)", "is_cut_plan(units, stock, order, value)"),
    "orders": ("least_for(units, rows)", "greatest_common(units, rows)"),
    "formulas": (
        "need_formula(units, value)", "formula_stocks(units, formula)", "is_enough_for(units, formula, stock)",
        "formula_apart(units, first, second)"),
    "counting": ("count_between(units, low, high)", "rows_between(units, low, high)", "row_steps(units, low, high)"),
    "asking": (
        "served_in_turn(units, stock, asks)", "lost_row(units, one, other)", "opened(units, row, unit, to, many)",
        "taken_back(units, stock, order)"),
    "rules": (
        "need_rule(units, value)", "best_rule(units)", "taken_by(units, rule, stock, unit)",
        "ruled(units, rule, stock, asks)", "rule_flaw(units, rule)", "is_rule_flaw(units, rule, value)"),
    "yards": (
        "need_tree(units, value)", "yard_paths(units, tree)", "needs(units, tree)", "is_served(units, tree)",
        "is_sending(units, tree, value)", "lack_paper(units, tree)", "is_lack_paper(units, tree, value)"),
    "spares": ("allowed(units, tree)", "spare(units, tree, path)", "least_added(units, tree, path)"),
    "reshaped": (
        "asked_more(units, tree, path, row)", "stocked(units, tree, path, row)", "moved(units, tree, path, row)",
        "closed(units, tree, path)", "asks_apart(units, one, other)"),
    "plans": (
        "need_plan(units, value)", "lives(units, plan, stock)", "plan_stocks(units, plan)",
        "plan_lacks(units, plan, stock)", "still_asked(units, plan, stock)", "plans_apart(units, first, second)",
        "put_behind(units, first, second)"),
    "plays": (
        "played(units, plan, stock, choices)", "strategy(units, plan, stock)",
        "is_strategy(units, plan, stock, value)", "play_against(units, plan, stock)",
        "is_play_against(units, plan, stock, value)"),
    "yardplans": (
        "need_yard_plan(units, yards, value)", "yard_stocks(units, yards, plan)",
        "yard_lives(units, yards, plan, stocks)", "root_stocks(units, yards, plan, stocks)",
        "yard_strategy(units, yards, plan, stocks)", "is_yard_strategy(units, yards, plan, stocks, value)"),
    "worlds": (
        "need_world(units, value)", "world_needs(units, world)", "outlives(units, world, stock)",
        "is_table(units, world, value)", "left_behind(units, world, stock, walk)"),
    "rings": (
        "endless_unit(units, world)", "ring_of(units, world)", "is_ring(units, world, value)",
        "failing_walk(units, world, stock)", "is_failing_walk(units, world, stock, value)"),
    "lasting": (
        "needs_within(units, world, steps)", "how_long(units, world, stock)", "as_plan(units, world, steps)"),
    "more": (
        "with_deed(units, world, step, deed)", "least_more(units, world, step)", "most_more(units, world, step)",
        "beside(units, one, other)"),
    "ruled": (
        "rule_loss(units, world, rule, stock)", "is_rule_loss(units, world, rule, stock, value)",
        "rule_table(units, world, rule, stock)", "is_rule_table(units, world, rule, stock, value)",
        "rules_compared(units, world, one, other, stock)"),
    "words": (
        "need_words(units, value)", "words_row(units, words)", "words_clash(units, words)", "first_words(units, row)",
        "free_words(units, words)", "words_behind(units, words, row)", "order_end(units, lengths)",
        "words_in_order(units, lengths)", "two_readings(units, words)", "is_two_readings(units, words, value)"),
    "wheel": (
        "need_wheel(units, value)", "wheel_row(units, wheel)", "first_meeting(units, wheel)", "wheel_of(units, row)",
        "free_turns(units, wheel)", "wheel_behind(units, wheel, row)", "is_wheel(units, row, value)",
        "due_at(units, wheel, tick)", "next_free(units, wheel, tick)", "dues_between(units, wheel, begin, end)",
        "free_between(units, wheel, begin, end)"),
    "draws": (
        "need_draw(units, value)", "draw_rows(units, draw)", "draw_shares(units, draw)", "all_throws(units, draw)",
        "drawn_by(units, draw, throws)", "draw_of(units, rows)", "least_draw(units, shares)",
        "redrawn(units, draw, shares)", "least_throws(units, draw, shares)",
        "is_redrawn(units, draw, shares, value)"),
    "joining": (
        "need_joins(units, value)", "joins_of(units, row)", "is_joins(units, row, value)", "fewest_left(units, row)",
        "latest_more(units, row)", "least_end(units, ready)", "joins_by(units, ready, end)",
        "is_joins_by(units, ready, end, value)"),
    "sides": (
        "is_side(units, side, value)", "side_row(units, side, value)", "side_of(units, row, side)",
        "side_turned(units, side, value, into)"),
    "worths": (
        "best_worth(units, stock, items)", "best_choice(units, stock, items)",
        "is_best_choice(units, stock, items, value)", "more_worth(units, stock, items)"),
    "payments": (
        "can_pay(units, one, other, amount)", "payment(units, one, other, amount)",
        "is_payment(units, one, other, amount, value)", "blocked_unit(units, one, other, amount)",
        "first_unpaid(units, one, other)", "next_paid(units, one, other, amount)"),
    "texts": (
        "row_text(units, row)", "tree_text(units, tree)", "plan_text(units, plan)", "formula_text(units, formula)",
        "world_text(units, world)", "read_row(units, text)", "read_tree(units, text)", "read_plan(units, text)",
        "read_formula(units, text)", "read_world(units, text)"),
}

CLASSES = {
    "house.House": (
        "__init__(self, units, tree)", "tree(self)", "needs(self)", "spare(self, path)", "do(self, deed)",
        "follow(self, deeds)", "trial(self, deeds)", "undo(self)", "log(self)", "copy(self)", "__len__(self)",
        "__iter__(self)", "__eq__(self, other)"),
    "sheet.Sheet": (
        "__init__(self, text)", "all_true(self)", "named(self, name)", "__len__(self)", "__iter__(self)",
        "__eq__(self, other)", "__str__(self)"),
}


class Interface(unittest.TestCase):
    def test_functions_are_defined_where_they_are_listed(self):
        for name, told in TOLD.items():
            module = importlib.import_module("stairyard." + name)
            for text in told:
                with self.subTest(function=text):
                    function = getattr(module, text.partition("(")[0])
                    self.assertTrue(inspect.isfunction(function))
                    self.assertEqual(function.__module__, "stairyard." + name)
                    self.assertEqual(function.__name__ + str(inspect.signature(function)), text)

    def test_methods_are_defined_in_their_class(self):
        for place, told in CLASSES.items():
            name, _, word = place.partition(".")
            made = getattr(importlib.import_module("stairyard." + name), word)
            self.assertEqual(made.__module__, "stairyard." + name)
            for text in told:
                with self.subTest(method=text):
                    method = vars(made)[text.partition("(")[0]]
                    self.assertEqual(method.__name__ + str(inspect.signature(method)), text)

    def test_sides(self):
        told = ("words", "texts", "wheel", "draw", "joins", "yard", "plan", "world")
        self.assertEqual(importlib.import_module("stairyard.sides").SIDES, told)


if __name__ == "__main__":
    unittest.main()
