"""Eight sides of one row: what is a value of a side, its row, values told and turned: points 64 to 66."""

import itertools
import unittest

from stairyard.draws import draw_of, draw_shares
from stairyard.errors import BadParameter, TooGreat, Unlike
from stairyard.rows import stair_of
from stairyard.sides import SIDES, is_side, side_of, side_row, side_turned
from stairyard.stairs import rest
from stairyard.wheel import free_between, wheel_of
from stairyard.words import first_words, words_in_order
from stairyard.yards import is_served
from tests.test_draws import all_draws
from tests.test_joining import join, numbered, shapes, thing
from tests.test_wheel import all_turns, meets
from tests.test_words import all_words, are_apart
from tests.tools import (
    PAPERS, SMALL_UNITS, STRAY, WRONG, Alike, YardCase, add, lies_within, rows_to, size_of, spoilt, swapped, total_of)
from tests.wrongs import END, zero_row

FIVE = SIDES[:5]


def one_piece(units):
    return (1,) + (0,) * len(units)


def row_of_lengths(units, lengths):
    told = list(lengths)
    return tuple(told.count(unit) for unit in range(len(units) + 1))


def fitting_rows(units):
    return [row for row in rows_to(units, size_of(units, 0)) if lies_within(units, row, one_piece(units))]


def wrong_sides(units):
    for value in (*STRAY, "Words", "", "word", b"words", ("words",), Alike(), SIDES, "world ", 7):
        yield value, BadParameter, {"value": value}


WRONG["side"] = wrong_sides


def plain_words(units, value):
    """The words of things, and so their number, of a value of one of the first five sides; None if it is none."""
    side, told = value
    if side == "words":
        return told if are_apart(*told) else None
    if side == "texts":
        return tuple(tuple(map(int, text)) for text in told)
    if side == "wheel":
        found = []
        for unit, start in told:
            letters = []
            for ratio in units[:unit]:
                letters.append(start % ratio)
                start //= ratio
            found.append(tuple(letters))
        return tuple(found)
    found = {}

    def walk(part, begun):
        if part[0] in ("leaf", "thing"):
            if part[1] is not None:
                found[part[1]] = begun
        else:
            for index, sub in enumerate(part[1]):
                walk(sub, (*begun, index))
    if told:
        walk(told, ())
    return tuple(found[number] for number in range(len(found)))


def things_of(value):
    """The numbers of the things in a draw or a joining, from the left."""
    if value[0] in ("leaf", "thing"):
        return [value[1]] if value[1] is not None else []
    return [number for sub in value[1] for number in things_of(sub)]


def from_zero(numbers):
    return sorted(numbers) == list(range(len(numbers)))


class Told(YardCase):
    def test_example(self):
        told = {
            "words": ((0,), (1, 0), (1, 1)), "texts": ("0", "10", "11"), "wheel": ((1, 0), (2, 1), (2, 3)),
            "draw": ("throw", (("leaf", 0), ("throw", (("leaf", 1), ("leaf", 2), ("leaf", None))))),
            "joins": join(thing(0), join(thing(1), thing(2))),
            "yard": ((1, 0, 0), (0, 0, 0), (((0, 0, 0), (0, 1, 0), (((0, 0, 0), (0, 0, 2), ()),)),)),
            "plan": ("ask", (0, 1, 0), ("ask", (0, 0, 2), END)),
            "world": (3, ((0, ("ask", (0, 1, 0)), 1), (1, ("ask", (0, 0, 2)), 2), (2, ("bring", (1, 0, 0)), 0))),
        }
        self.assertEqual(sorted(told), sorted(SIDES))
        for side, value in told.items():
            self.assertEqual(side_of((2, 3), (0, 1, 2), side), value)
            self.assertIs(is_side((2, 3), side, value), True)
            self.assertEqual(side_row((2, 3), side, value), (0, 1, 2))
            for into in SIDES:
                self.assertEqual(side_turned((2, 3), side, value, into), told[into])

    def test_all_rows(self):
        for units in SMALL_UNITS:
            for row in fitting_rows(units):
                values = {side: side_of(units, row, side) for side in SIDES}
                with self.subTest(units=units, row=row):
                    self.assertEqual(values["words"], first_words(units, row))
                    for side, value in values.items():
                        self.assertIs(is_side(units, side, value), True)
                        self.assertEqual(side_row(units, side, value), row)
                        for into in SIDES:
                            turned = side_turned(units, side, value, into)
                            self.assertEqual(side_row(units, into, turned), row)
                            if side not in ("joins",) or into not in FIVE:
                                self.assertEqual(turned, values[into])
                    for side in FIVE:
                        self.assertEqual(len(plain_words(units, (side, values[side]))), sum(row))
                    self.check_made(units, row, values)

    def check_made(self, units, row, values):
        """The yard, the plan and the world as the document tells them; the shares that are left free."""
        tree = values["yard"]
        for unit, many in enumerate(row):
            self.assertEqual(tree[0], one_piece(units) if unit == 0 else zero_row(units))
            self.assertEqual(tree[1], swapped(zero_row(units), unit, many))
            self.assertEqual(len(tree[2]), 0 if unit == len(units) else 1)
            tree = tree[2][0] if tree[2] else None
        asks = [("ask", swapped(zero_row(units), unit, many)) for unit, many in enumerate(row) if many]
        plan = values["plan"]
        for ask in asks:
            self.assertEqual(plan[:2], ask)
            plan = plan[2]
        self.assertEqual(plan, END)
        places, steps = values["world"]
        self.assertEqual([deed for _, deed, _ in steps], [*asks, ("bring", one_piece(units))])
        self.assertEqual([(source, to) for source, _, to in steps], [(k, (k + 1) % places) for k in range(places)])
        whole = size_of(units, 0)
        over = whole - total_of(units, row)
        self.assertEqual(draw_shares(units, values["draw"])[1], over)
        self.assertEqual(free_between(units, values["wheel"], 0, whole), over)
        self.assertEqual(total_of(units, rest(units, one_piece(units), row)), over)

    def test_rows_that_do_not_fit(self):
        for units in SMALL_UNITS:
            limit = stair_of(units, one_piece(units))
            for row in rows_to(units, size_of(units, 0) + 3):
                if not lies_within(units, row, one_piece(units)):
                    full = [k for k, number in enumerate(stair_of(units, row)) if number > limit[k]]
                    self.assertGreater(stair_of(units, row)[-1], size_of(units, 0))
                    for side in SIDES:
                        self.raises(Unlike, {"value": full[0]}, side_of, units, row, side)

    def test_sixty_and_more(self):
        units = (10, 10, 10)
        for side in SIDES:
            sixty = side_of(units, (0, 5, 0, 55), side)
            self.assertEqual(side_row(units, side, sixty), (0, 5, 0, 55))
            self.raises(TooGreat, {"most": 60}, side_of, units, (0, 5, 0, 56), side)
            self.raises(TooGreat, {"most": 60}, side_of, units, (0, 0, 0, 1000), side)
            self.raises(Unlike, {"value": 3}, side_of, units, (0, 0, 0, 1001), side)
            self.raises(Unlike, {"value": 0}, side_of, units, (10 ** 60,) * 4, side)
            self.assertEqual(side_row(units, side, side_of(units, (1, 0, 0, 0), side)), (1, 0, 0, 0))
            self.raises(Unlike, {"value": 3}, side_of, units, (1, 0, 0, 1), side)
        # The last three sides may have a row of more pieces; it is turned into none of more than 60.
        tree = ((1, 0, 0, 0), (0, 0, 0, 61), ())
        plan = ("ask", (0, 0, 0, 61), END)
        world = (2, ((0, ("ask", (0, 0, 0, 61)), 1), (1, ("bring", (1, 0, 0, 0)), 0)))
        for side, value in (("yard", tree), ("plan", plan), ("world", world)):
            self.assertIs(is_side(units, side, value), True)
            self.assertEqual(side_row(units, side, value), (0, 0, 0, 61))
            for into in SIDES:
                self.raises(TooGreat, {"most": 60}, side_turned, units, side, value, into)
        words = tuple(word for word in all_words(units) if len(word) == 3)
        texts = tuple("".join(map(str, word)) for word in words)
        turns = tuple((3, start) for start in range(1000))
        for side, value in (("words", words), ("texts", texts), ("wheel", turns)):
            self.assertIs(is_side(units, side, value[:60]), True)
            self.assertIs(is_side(units, side, value[:61]), False)

    def test_no_pieces(self):
        for units in SMALL_UNITS:
            row = zero_row(units)
            empty = {"words": (), "texts": (), "wheel": (), "draw": ("leaf", None), "joins": (), "plan": END,
                     "world": (1, ((0, ("bring", one_piece(units)), 0),))}
            for side, value in empty.items():
                self.assertEqual(side_of(units, row, side), value)
                self.assertEqual(side_row(units, side, value), row)
                for into in empty:
                    self.assertEqual(side_turned(units, side, value, into), empty[into])

    def test_wrong(self):
        for units in ((), (2,), (2, 3)):
            row = zero_row(units)
            self.wrong_each(is_side, ("side", None), units, "words", ())
            self.wrong_each(side_row, ("side", None), units, "words", ())
            self.wrong_each(side_of, ("row", "side"), units, (2,) + row[1:], "words")
            self.wrong_each(side_turned, ("side", None, "side"), units, "words", (), "texts")
            for side in SIDES:
                for value in (*PAPERS, Alike()):
                    if not is_side(units, side, value):
                        self.raises(BadParameter, {"value": value}, side_row, units, side, value)
                        self.raises(BadParameter, {"value": value}, side_turned, units, side, value, "words")
                        self.raises(BadParameter, {"value": value}, side_turned, units, side, value, None)


class Judged(YardCase):
    def check(self, units, side, value, row):
        """Assert that a value is one of this side exactly if a row is told, and that it has this row."""
        with self.subTest(units=units, side=side, value=value):
            self.assertIs(is_side(units, side, value), row is not None)
            if row is None:
                self.raises(BadParameter, {"value": value}, side_row, units, side, value)
            else:
                self.assertEqual(side_row(units, side, value), row)
                self.assertTrue(lies_within(units, row, one_piece(units)))

    def test_words_and_texts(self):
        for units in ((), (2,), (2, 3), (2, 2, 2)):
            for many in range(4 if len(units) < 3 else 3):
                for words in itertools.product(all_words(units), repeat=many):
                    row = row_of_lengths(units, map(len, words)) if are_apart(*words) else None
                    self.check(units, "words", words, row)
                    self.check(units, "texts", tuple("".join(map(str, word)) for word in words), row)
        for value in (["0"], ("0", "2"), ("a",), ("0", "00"), (" 0",), ("-1",), ("000",), (0,), ((0,),), ("\u0660",),
                      ("\u00b9",), ("1.",), (b"0",), "01", ("0", None), ("", ""), ("0", "0")):
            self.check((2, 3), "texts", value, None)
        self.check((2, 3), "texts", ("",), (1, 0, 0))
        self.check((10, 10), "texts", ("9", "09", "08"), (0, 1, 2))

    def test_wheels(self):
        for units in ((), (2,), (2, 3), (3, 2)):
            for many in range(4):
                for wheel in itertools.product(all_turns(units), repeat=many):
                    apart = not any(meets(units, one, other) for one, other in itertools.combinations(wheel, 2))
                    row = row_of_lengths(units, [unit for unit, _ in wheel])
                    self.check(units, "wheel", wheel, row if apart else None)

    def test_draws_and_joins(self):
        for units, outcomes in (((), (0, 1, None)), ((2,), (0, 1, 2, None)), ((3,), (0, 1, 2, None)),
                                ((2, 2), (0, 1, None))):
            for draw in all_draws(units, outcomes):
                words = plain_words(units, ("draw", draw)) if from_zero(things_of(draw)) else None
                self.check(units, "draw", draw, None if words is None else row_of_lengths(units, map(len, words)))
        for units in ((), (2,), (2, 2), (3,)):
            for shape in shapes(units):
                for numbers in ((0, 1, 2, 3), (1, 0, 3, 2), (0, 0, 1, 2), (1, 2, 3, 4), (0, 2, 1, 3)):
                    joins = numbered(shape, iter(numbers))
                    words = plain_words(units, ("joins", joins)) if from_zero(things_of(joins)) else None
                    self.check(units, "joins", joins, None if words is None else row_of_lengths(units, map(len, words)))
            self.check(units, "joins", (), zero_row(units))
        self.check((2,), "joins", [], None)
        self.check((2,), "draw", (), None)
        self.check((2, 2), "draw", ("throw", (("leaf", 59), ("leaf", None))), None)

    def test_yards(self):
        for units in ((), (2,), (2, 3)):
            one, none = one_piece(units), zero_row(units)
            rows = rows_to(units, size_of(units, 0))[:7]
            for stocks in ((one, none), (none, one), (one, one), (none, none), (none, (0,) * len(units) + (2,))):
                for asks in itertools.product(rows, repeat=2):
                    tree = (stocks[0], asks[0], ((stocks[1], asks[1], ()),))
                    good = add(*stocks) == one and is_served(units, tree)
                    self.check(units, "yard", tree, add(*asks) if good else None)
        # Two middle pieces are not one large piece.
        self.check((2,), "yard", ((0, 2), (0, 0), ()), None)

    def test_plans(self):
        for units in ((), (2,), (2, 3)):
            one = one_piece(units)
            for asks in itertools.product(rows_to(units, size_of(units, 0) + 1), repeat=2):
                row = add(*asks)
                plan = ("ask", asks[0], ("ask", asks[1], END))
                self.check(units, "plan", plan, row if lies_within(units, row, one) else None)
            self.check(units, "plan", END, zero_row(units))
            for plan in (("bring", one, END), ("ask", one, ("bring", one, END)), ("either", END, END),
                         ("ask", one, ("ours", END, END)), ("ask", one, ("ask", one, END))):
                self.check(units, "plan", plan, None)

    def test_worlds(self):
        units = (2,)
        one, ask, bring = (1, 0), ("ask", (0, 1)), ("bring", (1, 0))
        good = (3, ((0, ask, 1), (1, ask, 2), (2, bring, 0)))
        self.check(units, "world", good, (0, 2))
        for steps, row in (
                (((0, ask, 2), (2, ask, 1), (1, bring, 0)), (0, 2)), (((2, bring, 0), (1, ask, 2), (0, ask, 1)), (0, 2)),
                (((0, bring, 1), (1, ask, 2), (2, ask, 0)), (0, 2)), (((0, ask, 1), (1, bring, 2), (2, ("pass",), 0)), (0, 1)),
                (((0, ask, 1), (1, ("ask", one), 2), (2, bring, 0)), None), (((0, ask, 1), (1, ask, 2), (2, ask, 0)), None),
                (((0, bring, 1), (1, ask, 2), (2, bring, 0)), None), (((0, ask, 1), (1, ask, 2)), None),
                (((0, ask, 1), (1, ask, 0), (2, bring, 2)), None), (((0, ask, 1), (1, ask, 1), (2, bring, 0)), None),
                (((0, ask, 1), (1, ask, 2), (2, bring, 1)), None), (((0, ask, 1), (1, ask, 2), (2, bring, 2)), None),
                (((0, ask, 1), (1, ask, 2), (2, bring, 0), (2, bring, 0)), None), ((), None),
                (((0, ask, 1), (0, ask, 2), (2, bring, 0)), None), (((0, ask, 0), (1, ask, 1), (2, bring, 2)), None),
                (((0, ask, 1), (1, ask, 2), (2, ("bring", (0, 2)), 0)), None),
                (((0, ask, 1), (1, ask, 2), (2, ("bring", (2, 0)), 0)), None),
                (((0, ask, 1), (1, ("bring", (0, 0)), 2), (2, bring, 0)), None)):
            self.check(units, "world", (3, steps), row)
        self.check(units, "world", (1, ((0, bring, 0),)), (0, 0))
        self.check(units, "world", (1, ((0, ("ask", one), 0),)), None)
        self.check(units, "world", (2, ((0, ("ask", one), 1), (1, bring, 0))), one)
        self.check(units, "world", (2, ((0, bring, 0), (1, bring, 1))), None)
        eight = tuple((k, ask if k < 2 else ("pass",), k + 1) for k in range(7)) + ((7, bring, 0),)
        self.check(units, "world", (8, eight), (0, 2))

    def test_one_thing_changed(self):
        for units, row in (((2,), (0, 1)), ((2, 3), (0, 1, 2)), ((2, 2, 2), (0, 1, 1, 1))):
            for side in SIDES:
                good = side_of(units, row, side)
                for value in spoilt(good):
                    with self.subTest(side=side, value=value):
                        if is_side(units, side, value):
                            # What stands at a changed place may be another good thing of this side.
                            self.made_of_tuples_or_nothing(value)
                        else:
                            self.raises(BadParameter, {"value": value}, side_row, units, side, value)
                for value in PAPERS:
                    self.assertIn(is_side(units, side, value), (True, False))
        self.assertIs(is_side((2,), "joins", Alike()), False)

    def made_of_tuples_or_nothing(self, value):
        self.assertIn(value.__class__, (tuple, int, str, None.__class__))
        if isinstance(value, tuple):
            for part in value:
                self.made_of_tuples_or_nothing(part)

    def test_left_out_and_twice(self):
        units = (2, 3)
        words = side_of(units, (0, 1, 2), "words")
        for side in ("words", "texts", "wheel"):
            value = side_turned(units, "words", words, side)
            for at in range(3):
                less = value[:at] + value[at + 1:]
                self.assertEqual(side_row(units, side, less), row_of_lengths(units, map(len, words[:at] + words[at + 1:])))
                self.assertIs(is_side(units, side, (*value, value[at])), False)


class Turned(YardCase):
    def test_thing_by_thing(self):
        for units in ((), (2,), (3,), (2, 3), (2, 2, 2)):
            for many in range(4 if len(units) < 3 else 3):
                for words in itertools.permutations(all_words(units), many):
                    if are_apart(*words):
                        self.check_words(units, words)

    def check_words(self, units, words):
        with self.subTest(units=units, words=words):
            values = {side: side_turned(units, "words", words, side) for side in FIVE}
            self.assertEqual(values["words"], words)
            self.assertEqual(values["texts"], tuple("".join(map(str, word)) for word in words))
            for side in FIVE[1:4]:
                self.assertEqual(plain_words(units, (side, values[side])), words)
            for side in FIVE:
                self.assertEqual(side_row(units, side, values[side]), row_of_lengths(units, map(len, words)))
            for side, into in itertools.product(FIVE[:4], FIVE):
                self.assertEqual(side_turned(units, side, values[side], into), values[into])
            # Behind joins the places close up: of the same things under each join none is left out.
            closed = plain_words(units, ("joins", values["joins"]))
            self.assertEqual([len(word) for word in closed], [len(word) for word in words])
            self.assertEqual(closed, closed_up(words))
            for into in FIVE[:4]:
                again = side_turned(units, "joins", values["joins"], into)
                self.assertEqual(again, side_turned(units, "words", closed, into))
            self.assertEqual(side_turned(units, "joins", values["joins"], "joins"), values["joins"])
            row = row_of_lengths(units, map(len, words))
            for side in FIVE:
                for into in SIDES[5:]:
                    self.assertEqual(side_turned(units, side, values[side], into), side_of(units, row, into))

    def test_the_same_side(self):
        leaf = ("leaf", None)
        scattered = ("throw", (("leaf", 0), ("throw", (leaf, leaf))))
        self.assertEqual(side_turned((2, 2), "draw", scattered, "draw"), ("throw", (("leaf", 0), leaf)))
        self.assertEqual(side_turned((2, 2), "draw", ("throw", (leaf, leaf)), "draw"), leaf)
        self.assertEqual(side_turned((2, 2), "words", ((1,), (0, 1)), "words"), ((1,), (0, 1)))
        self.assertEqual(side_turned((2, 2), "wheel", ((2, 3), (1, 0)), "wheel"), ((2, 3), (1, 0)))
        # A yard is told anew.
        tree = ((0, 0), (0, 1), (((1, 0), (0, 1), ()),))
        self.assertIs(is_side((2,), "yard", ((1, 0), (0, 1), (((0, 0), (0, 1), ()),))), True)
        self.assertIs(is_side((2,), "yard", tree), False)
        self.assertEqual(side_turned((2,), "yard", ((1, 0), (0, 1), (((0, 0), (0, 1), ()),)), "yard"),
                         ((1, 0), (0, 0), (((0, 0), (0, 2), ()),)))
        self.assertEqual(side_turned((2,), "plan", ("ask", (0, 1), ("ask", (0, 1), END)), "plan"), ("ask", (0, 2), END))

    def test_draws_of_too_many_parts(self):
        units = (10, 10, 10)
        words = tuple((k % 10, k // 10, 0) for k in range(28))
        draw = side_turned(units, "words", words, "draw")
        self.assertIs(is_side(units, "draw", draw), True)
        many = tuple((k % 10, k // 10, 0) for k in range(29))
        self.assertIs(is_side(units, "words", many), True)
        for side in FIVE[:3]:
            self.raises(TooGreat, {"most": 400}, side_turned, units, side, side_turned(units, "words", many, side), "draw")
        self.assertEqual(side_row(units, "joins", side_turned(units, "words", many, "joins")), (0, 0, 0, 29))
        self.assertEqual(side_turned(units, "words", many, "plan"), ("ask", (0, 0, 0, 29), END))

    def test_the_wheel_of_a_row_is_another_one(self):
        self.assertEqual(side_of((2, 2), (0, 0, 2), "wheel"), ((2, 0), (2, 2)))
        self.assertEqual(wheel_of((2, 2), (0, 0, 2)), ((2, 0), (2, 1)))
        self.assertEqual(side_of((2, 2), (0, 0, 2), "words"), words_in_order((2, 2), (2, 2)))
        self.assertEqual(side_of((2, 2), (0, 1, 1), "draw"), draw_of((2, 2), ((0, 1, 0), (0, 0, 1))))


def closed_up(words):
    """The words behind joins, of which each letter tells at which place among those that are taken it leads."""
    found = []
    for word in words:
        letters = []
        for at in range(len(word)):
            beside = {other[at] for other in words if other[:at] == word[:at]}
            letters.append(sorted(beside).index(word[at]))
        found.append(tuple(letters))
    return tuple(found)


if __name__ == "__main__":
    unittest.main()
