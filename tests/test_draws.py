"""Draws, those that are made of rows and shares, those that go on from another one: points 59 to 61."""

import itertools
import unittest

from stairyard.draws import (
    all_throws, draw_of, draw_rows, draw_shares, drawn_by, is_redrawn, least_draw, least_throws, need_draw, redrawn)
from stairyard.errors import BadDraw, BadParameter, TooGreat, Unlike
from stairyard.rows import stair_of
from tests.tools import SMALL_UNITS, YardCase, add, lies_within, plain_stair, rows_to, size_of, total_of
from tests.wrong_shapes import wrong_draw
from tests.wrongs import zero_row

NOTHING = ("leaf", None)


def leaf(outcome):
    return ("leaf", outcome)


def throw(*subs):
    return ("throw", subs)


def all_draws(units, outcomes):
    """All draws with these outcomes."""
    found = [leaf(outcome) for outcome in outcomes]
    if units:
        found += [throw(*subs) for subs in itertools.product(all_draws(units[1:], outcomes), repeat=units[0])]
    return found


def shapes(units):
    """All draws with nothing at each leaf."""
    return all_draws(units, (None,))


def ways(units):
    """All ways of throwing."""
    return list(itertools.product(*map(range, units)))


def come(draw, sides):
    made = 0
    while draw[0] == "throw":
        draw = draw[1][sides[made]]
        made += 1
    return draw[1], made


def plain_rows(units, draw):
    """The rows of the leaves of each outcome."""
    found = {}

    def walk(part, level):
        if part[0] == "leaf":
            row = list(found.get(part[1], zero_row(units)))
            row[level] += 1
            found[part[1]] = tuple(row)
        else:
            for sub in part[1]:
                walk(sub, level + 1)
    walk(draw, 0)
    return found


def plain_goes_on(one, other):
    if one[0] == "leaf":
        return True
    return other[0] == "throw" and all(plain_goes_on(a, b) for a, b in zip(one[1], other[1]))


def one_piece(units):
    return (1,) + (0,) * len(units)


def digits(units, share):
    """The row with this total of fewest pieces."""
    row = []
    for unit in range(len(units) + 1):
        size = size_of(units, unit)
        row.append(share // size)
        share -= share // size * size
    return tuple(row)


def all_shares(units, many):
    """All shares of so many outcomes."""
    whole = size_of(units, 0)
    return [told for told in itertools.product(range(whole + 1), repeat=many) if sum(told) <= whole]


def parts_of(draw):
    return 1 if draw[0] == "leaf" else 1 + sum(map(parts_of, draw[1]))


def fewest_throws(units, shares, draw=NOTHING):
    """The fewest throws of draws with these shares that go on from a draw, of all ways to give leaves to outcomes."""
    best = None
    whole = size_of(units, 0)
    for shape in shapes(units):
        if plain_goes_on(draw, shape):
            rows = plain_rows(units, shape)[None]
            throws = sum(whole - plain_stair(units, rows)[k] * size_of(units, k) for k in range(len(units)))
            sizes = [size_of(units, k) for k, many in enumerate(rows) for _ in range(many)]
            if can_part(sizes, (*shares, whole - sum(shares))) and (best is None or throws < best):
                best = throws
    return best


def can_part(sizes, shares):
    """Whether leaves of these sizes can be given to outcomes so that each has its share."""
    if not sizes:
        return True
    return any(can_part(sizes[1:], shares[:at] + (share - sizes[0],) + shares[at + 1:])
               for at, share in enumerate(shares) if share >= sizes[0])


def wide_draw(units, many, last):
    """The draw with all throws at the first two levels and so many at the next one, from the left, and a last leaf."""
    ends = [throw(*[leaf(0)] * units[-1]) if at < many else leaf(0) for at in range(units[0] * units[1])]
    if len(units) == 2:
        return throw(*[ends[at] if at < many else leaf(0) for at in range(units[0])])
    if many < len(ends):
        ends[-1] = last
    else:
        ends[-1] = throw(*[leaf(0)] * (units[2] - 1), last)
    return throw(*[throw(*ends[at:at + units[1]]) for at in range(0, len(ends), units[1])])


class Draws(YardCase):
    def check_draw(self, units, draw):
        self.assertEqual(need_draw(units, draw), draw)
        rows = plain_rows(units, draw)
        greatest = max([outcome for outcome in rows if outcome is not None], default=-1)
        told = tuple(rows.get(outcome, zero_row(units)) for outcome in range(greatest + 1))
        self.assertEqual(draw_rows(units, draw), (told, rows.get(None, zero_row(units))))
        comes = [come(draw, sides) for sides in ways(units)]
        shares = tuple(sum(outcome == number for outcome, _ in comes) for number in range(greatest + 1))
        self.assertEqual(draw_shares(units, draw), (shares, sum(outcome is None for outcome, _ in comes)))
        self.assertEqual(all_throws(units, draw), sum(made for _, made in comes))
        self.assertEqual([drawn_by(units, draw, sides) for sides in ways(units)], comes)
        leaves = add(zero_row(units), *rows.values())
        self.assertEqual(total_of(units, leaves), size_of(units, 0))
        stair = stair_of(units, leaves)
        self.assertEqual(all_throws(units, draw), sum(
            size_of(units, 0) - stair[k] * size_of(units, k) for k in range(len(units))))

    def test_all_small_draws(self):
        for units, outcomes in (((), (0, 3, None)), ((2,), (0, 1, 5, None)), ((3,), (0, 2, None)),
                                ((2, 2), (0, 1, None)), ((2, 3), (1, None)), ((3, 2), (0, None))):
            for draw in all_draws(units, outcomes):
                with self.subTest(units=units, draw=draw):
                    self.check_draw(units, draw)
        self.made_of_tuples(draw_rows((2,), throw(leaf(0), leaf(2))))
        self.made_of_tuples(draw_shares((2,), throw(leaf(0), leaf(2))))
        self.assertEqual(drawn_by((2,), throw(leaf(0), leaf(2)), (1,)), (2, 1))

    def test_deep_draws(self):
        for draw in list(all_draws((2, 2, 2), (0, None)))[::997]:
            with self.subTest(draw=draw):
                self.check_draw((2, 2, 2), draw)

    def test_example(self):
        draw = throw(leaf(0), throw(leaf(0), leaf(1), NOTHING))
        self.assertEqual(draw_rows((2, 3), draw), (((0, 1, 1), (0, 0, 1)), (0, 0, 1)))
        self.assertEqual(draw_shares((2, 3), draw), ((4, 1), 1))
        self.assertEqual(all_throws((2, 3), draw), 9)

    def test_edges(self):
        self.assertEqual(draw_rows((2,), NOTHING), ((), (1, 0)))
        self.assertEqual(draw_shares((2,), NOTHING), ((), 2))
        self.assertEqual(draw_rows((), leaf(59)), (((0,),) * 59 + ((1,),), (0,)))
        self.assertEqual(drawn_by((), leaf(59), ()), (59, 0))
        self.assertEqual(drawn_by((2, 2), NOTHING, (1, 1)), (None, 0))
        self.raises(BadDraw, {"path": ()}, need_draw, (), leaf(60))
        self.raises(BadDraw, {"path": ()}, need_draw, (), throw(leaf(0), leaf(0)))
        self.raises(BadDraw, {"path": (1, 1)}, need_draw, (2,), throw(leaf(0), throw(leaf(0), leaf(0))))
        self.raises(BadDraw, {"path": (1, 0, 1, 1)}, need_draw, (2, 3), throw(throw(leaf(0), leaf(60), leaf(0)), None))
        self.raises(BadDraw, {"path": (1, 0)}, need_draw, (2, 3), throw(throw(leaf(0), leaf(0)), None))

    def test_four_hundred_parts(self):
        self.assertEqual(parts_of(wide_draw((7, 7, 7), 49, leaf(0))), 400)
        self.check_draw((7, 7, 7), wide_draw((7, 7, 7), 49, leaf(0)))
        self.assertEqual(parts_of(wide_draw((10, 10, 4), 72, leaf(0))), 399)
        self.check_draw((10, 10, 4), wide_draw((10, 10, 4), 72, leaf(0)))
        ten = (10, 10, 10)
        self.check_draw(ten, wide_draw(ten, 28, leaf(0)))
        self.assertEqual(parts_of(wide_draw(ten, 29, leaf(0))), 401)
        for many in (29, 30, 100):
            self.raises(TooGreat, {"most": 400}, need_draw, ten, wide_draw(ten, many, leaf(0)))
            self.raises(TooGreat, {"most": 400}, draw_shares, ten, wide_draw(ten, many, leaf(0)))
        # The last part is the 391st, the 401st, the 400th one: with more ahead its form is not looked at.
        self.raises(BadDraw, {"path": (1, 9, 1, 9)}, need_draw, ten, wide_draw(ten, 28, None))
        self.raises(TooGreat, {"most": 400}, need_draw, ten, wide_draw(ten, 29, None))
        self.raises(BadDraw, {"path": (1, 6) * 3}, need_draw, (7, 7, 7), wide_draw((7, 7, 7), 49, None))
        self.raises(BadDraw, {"path": (1, 0)}, need_draw, ten, throw(None, *[wide_draw(ten[1:], 10, leaf(0))] * 9))

    def test_wrong(self):
        for units in ((), (2,), (2, 3), (3, 2, 2)):
            rows = (one_piece(units), one_piece(units))
            for function in (need_draw, draw_rows, draw_shares, all_throws):
                self.wrong_each(function, ("draw",), units, leaf(0))
            self.wrong_each(drawn_by, ("draw", "throws"), units, leaf(0), zero_row(units)[1:])
            self.wrong_each(draw_of, ("rows",), units, rows)
            self.wrong_each(least_draw, ("shares",), units, ())
            self.wrong_each(redrawn, ("draw", "shares"), units, leaf(0), ())
            self.wrong_each(least_throws, ("draw", "shares"), units, leaf(0), ())
            self.wrong_each(is_redrawn, ("draw", "shares", None), units, leaf(0), (), None)
        self.assertTrue(list(wrong_draw(())))


class Made(YardCase):
    def test_example(self):
        draw = throw(leaf(0), throw(leaf(0), leaf(1), NOTHING))
        self.assertEqual(least_draw((2, 3), (4, 1)), draw)
        self.assertEqual(draw_of((2, 3), ((0, 1, 1), (0, 0, 1))), draw)

    def filled(self, units, rows):
        """The draw as the document tells it: each leaf at the first place, from the left, where there is room."""
        words = []
        for unit in range(len(units) + 1):
            for outcome, row in enumerate(rows):
                for _ in range(row[unit]):
                    places = [word for word in itertools.product(*map(range, units[:unit])) if all(
                        word[:len(other)] != other for other, _ in words)]
                    words.append((places[0], outcome))

        def grow(begun):
            at = [outcome for word, outcome in words if word == begun]
            if at:
                return leaf(at[0])
            if not any(word[:len(begun)] == begun for word, _ in words):
                return NOTHING
            return throw(*[grow((*begun, side)) for side in range(units[len(begun)])])
        return grow(())

    def test_all_rows(self):
        for units in ((), (2,), (3,), (2, 3), (3, 2), (2, 2, 2)):
            rows = rows_to(units, size_of(units, 0) + 1)
            for one, other in itertools.product(rows, rows[::3]):
                both = add(one, other)
                with self.subTest(units=units, one=one, other=other):
                    if lies_within(units, both, one_piece(units)):
                        draw = draw_of(units, (one, other))
                        self.assertEqual(draw, self.filled(units, (one, other)))
                        self.made_of_tuples_or_nothing(draw)
                        told, _ = draw_rows(units, draw)
                        self.assertEqual(told + (zero_row(units),) * (2 - len(told)), (one, other))
                    else:
                        limit, stair = stair_of(units, one_piece(units)), stair_of(units, both)
                        full = [k for k, number in enumerate(stair) if number > limit[k]]
                        self.raises(Unlike, {"value": full[0]}, draw_of, units, (one, other))

    def made_of_tuples_or_nothing(self, draw):
        self.assertIs(type(draw), tuple)
        if draw[0] == "throw":
            self.assertIs(type(draw[1]), tuple)
            for sub in draw[1]:
                self.made_of_tuples_or_nothing(sub)

    def test_unit_by_unit_and_then_row_by_row(self):
        self.assertEqual(draw_of((2, 2), ((0, 0, 1), (0, 1, 0), (0, 0, 1))), throw(leaf(1), throw(leaf(0), leaf(2))))
        self.assertEqual(draw_of((2, 2), ()), NOTHING)
        self.assertEqual(draw_of((2, 2), ((0, 0, 0),) * 60), NOTHING)
        self.assertEqual(draw_of((2, 2), ((0, 0, 0),) * 59 + ((0, 0, 1),)), throw(throw(leaf(59), NOTHING), NOTHING))
        self.raises(Unlike, {"value": 0}, draw_of, (2, 2), ((1, 0, 0), (1, 0, 0)))
        self.raises(Unlike, {"value": 2}, draw_of, (2, 2), ((1, 0, 0), (0, 0, 1)))
        self.raises(Unlike, {"value": 1}, draw_of, (2, 2), ((0, 2, 0), (0, 1, 10 ** 60)))

    def test_too_many_parts(self):
        units = (10, 10, 10)
        self.raises(TooGreat, {"most": 400}, draw_of, units, ((0, 0, 0, 1000),))
        self.raises(Unlike, {"value": 3}, draw_of, units, ((0, 0, 0, 1001),))
        self.raises(TooGreat, {"most": 400}, draw_of, units, ((0, 0, 0, 350),))
        self.assertEqual(parts_of(draw_of(units, ((0, 0, 0, 340),))), 1 + 10 + 40 + 340)
        # 340 leaves stand beside 6 of nothing, under 34 throws, which stand under 4.
        self.raises(TooGreat, {"most": 400}, draw_of, units, ((0, 0, 0, 341),))
        seven = draw_of((7, 7, 7), ((0, 0, 0, 343),))
        self.assertEqual(parts_of(seven), 400)
        self.raises(TooGreat, {"most": 400}, least_draw, (8, 8, 8), (7,) * 60)
        self.raises(TooGreat, {"most": 400}, least_draw, units, (16,) * 60)
        self.raises(TooGreat, {"most": 1000}, least_draw, units, (17,) * 60)
        self.assertLessEqual(parts_of(least_draw(units, (11,) * 60)), 400)

    def test_fewest_throws(self):
        for units, many in (((), 1), ((2,), 2), ((3,), 2), ((2, 2), 3), ((2, 3), 2), ((3, 2), 2), ((2, 2, 2), 2)):
            for shares in all_shares(units, many)[::1 if size_of(units, 0) < 8 else 7]:
                with self.subTest(units=units, shares=shares):
                    draw = least_draw(units, shares)
                    self.assertEqual(draw, draw_of(units, tuple(digits(units, share) for share in shares)))
                    told, nothing = draw_shares(units, draw)
                    self.assertEqual(told + (0,) * (many - len(told)), shares)
                    self.assertEqual(nothing, size_of(units, 0) - sum(shares))
                    self.assertEqual(all_throws(units, draw), fewest_throws(units, shares))

    def test_shares(self):
        self.assertEqual(least_draw((2, 3), ()), NOTHING)
        self.assertEqual(least_draw((2, 3), (6,)), leaf(0))
        self.assertEqual(least_draw((2, 3), (0, 6, 0)), leaf(1))
        self.assertEqual(least_draw((), (1,)), leaf(0))
        self.raises(TooGreat, {"most": 1}, least_draw, (), (1, 1))
        self.raises(TooGreat, {"most": 6}, least_draw, (2, 3), (6, 1))
        self.raises(TooGreat, {"most": 6}, least_draw, (2, 3), (10 ** 60, 1))
        self.raises(BadParameter, {"value": (10 ** 60 + 1,)}, least_draw, (2, 3), (10 ** 60 + 1,))
        self.assertEqual(least_draw((2, 3), (0,) * 60), NOTHING)


class Redrawn(YardCase):
    def test_example(self):
        draw = throw(leaf(0), leaf(1))
        again = redrawn((2, 3), draw, (2, 4))
        self.assertEqual(least_throws((2, 3), draw, (2, 4)), 9)
        self.assertEqual(all_throws((2, 3), again), 9)
        self.assertEqual(draw_shares((2, 3), again), ((2, 4), 0))
        self.assertIs(is_redrawn((2, 3), draw, (2, 4), again), True)

    def check_redrawn(self, units, draw, shares):
        again = redrawn(units, draw, shares)
        self.assertTrue(plain_goes_on(draw, again))
        told, nothing = draw_shares(units, again)
        self.assertEqual(told + (0,) * (len(shares) - len(told)), shares)
        self.assertEqual(nothing, size_of(units, 0) - sum(shares))
        self.assertIs(is_redrawn(units, draw, shares, again), True)
        throws = all_throws(units, again)
        self.assertEqual(least_throws(units, draw, shares), throws)
        leaves = add(zero_row(units), *plain_rows(units, draw).values())
        wanted = add(*[digits(units, share) for share in (*shares, nothing)])
        lesser = tuple(map(min, plain_stair(units, leaves), plain_stair(units, wanted)))
        self.assertEqual(plain_stair(units, add(zero_row(units), *plain_rows(units, again).values())), lesser)
        return throws

    def test_fewest_throws_of_all_draws_that_go_on(self):
        for units, many in (((), 1), ((2,), 2), ((3,), 2), ((2, 2), 2), ((2, 3), 2), ((3, 2), 1), ((2, 2, 2), 2)):
            step = 1 if len(units) < 3 else 5
            for draw in shapes(units)[::step]:
                for shares in all_shares(units, many)[::step]:
                    with self.subTest(units=units, draw=draw, shares=shares):
                        throws = self.check_redrawn(units, draw, shares)
                        self.assertEqual(throws, fewest_throws(units, shares, draw))

    def test_out_of_a_leaf_alone(self):
        for units in ((2,), (2, 3), (3, 2, 2)):
            for shares in all_shares(units, 2):
                self.assertEqual(least_throws(units, leaf(7), shares), all_throws(units, least_draw(units, shares)))
                self.check_redrawn(units, leaf(7), shares)
        self.assertEqual(redrawn((), leaf(3), (1,)), leaf(0))
        self.assertEqual(redrawn((2, 2), leaf(3), ()), NOTHING)

    def test_outcomes_of_the_draw_do_not_matter(self):
        for draw in all_draws((2, 2), (0, 9, None)):
            for shares in ((), (1,), (4,), (0, 3), (2, 0, 2)):
                self.check_redrawn((2, 2), draw, shares)

    def test_too_many_parts(self):
        units = (10, 10, 10)
        draw = draw_of(units, ((0, 0, 0, 340),))
        self.assertEqual(parts_of(draw), 391)
        self.check_redrawn(units, draw, (1000,))
        self.check_redrawn(units, draw, (500, 500))
        # All single pieces of the outcomes are more than those of the draw: 20 pieces more are cut, two of them twice.
        self.raises(TooGreat, {"most": 400}, redrawn, units, draw, (9,) * 60)
        self.assertEqual(least_throws(units, draw, (9,) * 60), 1000 + (1000 - 400) + (1000 - 460))
        self.raises(TooGreat, {"most": 400}, redrawn, units, leaf(0), (16,) * 60)
        self.assertEqual(least_throws(units, leaf(0), (1,) * 60), 1000 + 100 + 60)
        self.raises(TooGreat, {"most": 1000}, redrawn, units, draw, (999, 2))
        self.raises(TooGreat, {"most": 1000}, is_redrawn, units, draw, (999, 2), None)

    def test_papers(self):
        draw = throw(leaf(0), leaf(1))
        units = (2, 2)
        good = throw(leaf(1), throw(leaf(0), NOTHING))
        self.judges(is_redrawn, good, units, draw, (1, 2))
        for value in (throw(leaf(1), throw(leaf(0), leaf(2))), throw(leaf(0), throw(leaf(0), NOTHING)), leaf(0),
                      throw(leaf(1), throw(leaf(0), leaf(0))), throw(leaf(0), leaf(1)), throw(leaf(1), NOTHING)):
            self.assertIs(is_redrawn(units, draw, (1, 2), value), False)
        self.assertIs(is_redrawn(units, draw, (1, 2, 0, 0), good), True)
        self.assertIs(is_redrawn(units, leaf(3), (1, 2), good), True)
        self.assertIs(is_redrawn(units, throw(draw, leaf(1)), (1, 2), good), False)
        self.assertIs(is_redrawn(units, throw(leaf(1), draw), (1, 2), good), True)
        # More throws than needed are let, but no more parts than a draw may have.
        self.assertIs(is_redrawn(units, leaf(0), (4,), throw(leaf(0), throw(leaf(0), leaf(0)))), True)
        self.assertIs(is_redrawn(units, leaf(0), (), throw(NOTHING, throw(NOTHING, NOTHING))), True)
        self.assertIs(is_redrawn(units, leaf(0), (), throw(NOTHING, leaf(0))), False)
        hundred = throw(*[throw(*[throw(*[leaf(0)] * 10)] * 10)] * 10)
        self.assertIs(is_redrawn((10, 10, 10), leaf(0), (1000,), hundred), False)
        self.assertIs(is_redrawn((7, 7, 7), leaf(0), (343,), draw_of((7, 7, 7), ((0, 0, 0, 343),))), True)
        for shares in all_shares(units, 2):
            for value in all_draws(units, (0, 1, 2)):
                rows = plain_rows(units, value)
                told = tuple(total_of(units, rows.get(outcome, zero_row(units))) for outcome in (0, 1, 2))
                self.assertIs(is_redrawn(units, draw, shares, value),
                              plain_goes_on(draw, value) and told == shares + (0,))


if __name__ == "__main__":
    unittest.main()
