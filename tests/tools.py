"""What the tests share: plain searches by single cuts, and wrong values of every kind."""

import itertools
import unittest

from stairyard import errors

# With no ratio, one, two and three of them.
SMALL_UNITS = ((), (2,), (3,), (2, 3), (3, 2), (2, 2, 2), (2, 3, 2))


def size_of(units, unit):
    size = 1
    for ratio in units[unit:]:
        size *= ratio
    return size


def total_of(units, row):
    return sum(many * size_of(units, unit) for unit, many in enumerate(row))


def plain_stair(units, row):
    """The stair as the document tells it: pieces so great or greater, counted in each unit."""
    return tuple(sum(row[j] * size_of(units, j) // size_of(units, k) for j in range(k + 1)) for k in range(len(row)))


def is_plain_stair(units, numbers):
    return min(numbers) >= 0 and all(numbers[k] >= units[k - 1] * numbers[k - 1] for k in range(1, len(numbers)))


def lies_within(units, one, other):
    return all(a <= b for a, b in zip(plain_stair(units, one), plain_stair(units, other)))


def has_all(row, order):
    return all(a >= b for a, b in zip(row, order))


def add(*rows):
    return tuple(map(sum, zip(*rows)))


def take(row, other):
    return tuple(a - b for a, b in zip(row, other))


def rows_to(units, most):
    """All rows with a total of at most `most`, ascending."""
    def begun(unit, left):
        if unit == len(units) + 1:
            yield ()
            return
        for many in range(left // size_of(units, unit) + 1):
            for others in begun(unit + 1, left - many * size_of(units, unit)):
                yield (many,) + others
    return sorted(begun(0, most))


def rows_of_total(units, told):
    return [row for row in rows_to(units, told) if total_of(units, row) == told]


def single_cuts(units, row):
    """The pairs of a unit and the row behind one cut there."""
    for unit, ratio in enumerate(units):
        if row[unit] > 0:
            cut = list(row)
            cut[unit] -= 1
            cut[unit + 1] += ratio
            yield unit, tuple(cut)


def single_joins(units, row):
    for unit, ratio in enumerate(units):
        if row[unit + 1] >= ratio:
            joined = list(row)
            joined[unit] += 1
            joined[unit + 1] -= ratio
            yield unit, tuple(joined)


CUT_FROM = {}


def cut_from(units, row):
    """All rows to which cuts lead from a row, this one too."""
    if (units, row) not in CUT_FROM:
        found = {row}
        for _, cut in single_cuts(units, row):
            found |= cut_from(units, cut)
        CUT_FROM[units, row] = frozenset(found)
    return CUT_FROM[units, row]


def serves(units, stock, order):
    return any(has_all(row, order) for row in cut_from(units, stock))


def left_over(units, stock, order):
    """All rows that can be left behind an order."""
    return {take(row, order) for row in cut_from(units, stock) if has_all(row, order)}


def least_of(units, rows):
    """The ascending tuple of those rows within which no unlike one of them lies."""
    return tuple(sorted(
        row for row in rows if not any(other != row and lies_within(units, other, row) for other in rows)))


def units_with_rows(most):
    """Pairs of small UNITS and the rows of them with small totals."""
    for units in SMALL_UNITS:
        yield units, rows_to(units, most)


def swapped(values, at, value):
    return values[:at] + (value,) + values[at + 1:]


class Alike:
    """A value that says of itself that it equals each other one."""

    def __eq__(self, other):
        return True

    def __hash__(self):
        return 0


STRAY = (None, True, False, 0, 5, "row", b"row", [], {}, set(), object(), lambda: 0)
# Values of every kind for what judges papers: none of them is a good paper of an order that asks something.
PAPERS = (*STRAY, (), (0,), (None,), (True,), ((),), ((0,),), ("cut",), -1, 10 ** 70, ((),) * 4, (None,) * 4, range(3))
NO_NUMBERS = (True, False, None, "0", (0,), [0], b"0", {})


def wrong_units():
    made = [(1,), (11,), (0,), (-2,), (True,), (False,), (None,), ("2",), ([2],), ((2,),), (2, 3, 2, 2), [2], [2, 3]]
    made += [(2, 1), (2, 11), (2, True), (2, 3, None), (2, 3, 11), (10, 10, 1), range(2, 4), (10 ** 70,)]
    for value in (*STRAY, *made):
        yield value, errors.BadUnits, {"value": value}


def wrong_places(units, below, above, good):
    """Tuples that are not one integer from `below` + 1 to `above` - 1 for each unit."""
    yield from STRAY
    yield list(good)
    yield good[:-1]
    yield good + (0,)
    for at in range(len(good)):
        for number in (*NO_NUMBERS, below, above):
            yield swapped(good, at, number)


def wrong_row(units):
    for value in wrong_places(units, -1, 10 ** 60 + 1, (0,) * (len(units) + 1)):
        yield value, errors.BadRow, {"value": value}


def wrong_rows(units):
    row = (0,) * (len(units) + 1)
    for value in (*STRAY, [row], (row,) * 61, (None,) * 61):
        yield value, errors.BadRows, {"place": ()}
    for wrong, _, _ in wrong_row(units):
        yield (wrong,), errors.BadRows, {"place": (0,)}
        yield (row, row, wrong, None), errors.BadRows, {"place": (2,)}
    yield (row,) * 59 + (None,), errors.BadRows, {"place": (59,)}


def wrong_stair(units):
    for value in wrong_places(units, -1, 10 ** 64 + 1, tuple(10 ** 3 ** k for k in range(len(units) + 1))):
        yield value, errors.BadStair, {"value": value}
    for at, ratio in enumerate(units):
        falling = swapped((0,) * len(units) + (10 ** 60,), at, 7)
        falling = swapped(falling, at + 1, 7 * ratio - 1)
        yield falling, errors.BadStair, {"value": falling}


def wrong_numbers(units):
    for value in wrong_places(units, -10 ** 64 - 1, 10 ** 64 + 1, (0,) * (len(units) + 1)):
        yield value, errors.BadNumbers, {"value": value}


def no_integer_to(most):
    return (*[value for value in STRAY if value != 0 and value != 5 or isinstance(value, bool)], (), (0,), -1, most + 1)


def wrong_unit(units):
    for value in no_integer_to(len(units)):
        yield value, errors.BadUnit, {"value": value}


def wrong_cut_unit(units):
    for value in (*no_integer_to(len(units)), len(units)):
        yield value, errors.BadUnit, {"value": value}


def wrong_steps(units):
    for value in (*STRAY, [("cut", 0)]):
        yield value, errors.BadSteps, {"place": ()}
    yield (None,) * 61, errors.TooGreat, {"most": 60}
    wrong = [*STRAY, (), ("cut",), ("cut", 0, 0), ["cut", 0], ("cuts", 0), ("Cut", 0), (b"cut", 0), ("", 0), (None, 0)]
    wrong += [("join", None), ("cut", True), ("cut", False), ("join", -1), ("cut", len(units)), ("join", len(units))]
    wrong += [("cut", "0"), ("cut", (0,)), (0, "cut"), (("cut", 0),), (Alike(), 0), ("cut", Alike()), Alike()]
    for step in wrong:
        yield (step,), errors.BadSteps, {"place": (0,)}
        if units:
            yield (("cut", 0), ("join", 0), step, None), errors.BadSteps, {"place": (2,)}


def wrong_cuts(units):
    for value in (*STRAY, [0]):
        yield value, errors.BadSteps, {"place": ()}
    yield (None,) * 61, errors.TooGreat, {"most": 60}
    for unit in (*no_integer_to(len(units)), len(units)):
        yield (unit,), errors.BadSteps, {"place": (0,)}


def wrong_blocks(units):
    for value in (*STRAY, [0]):
        yield value, errors.BadParameter, {"value": value}
    yield (None,) * 61, errors.TooGreat, {"most": 60}
    for unit in no_integer_to(len(units)):
        for value in ((unit,), (0, 0, unit), (unit,) * 60):
            yield value, errors.BadParameter, {"value": value}


def wrong_many(units):
    for value in no_integer_to(10 ** 60):
        yield value, errors.BadParameter, {"value": value}


def nested(deep, inner):
    """A value `inner` so many formulas deep, itself counted."""
    for _ in range(deep - 1):
        inner = ("one", (inner,))
    return inner


def wrong_formula(units):
    row = ("row", (0,) * (len(units) + 1))
    forms = [*STRAY, (), ("row",), (*row, 0), list(row), ("Row", row[1]), (b"row", row[1]), ("any",), ("any", [row])]
    forms += [("any", row[1], ()), ("any", (row,) * 5), ("one", (None,) * 5), ("together", None), ("all", (row,))]
    forms += [("row", wrong) for wrong, _, _ in wrong_row(units)] + [(("row",), row[1]), (None, ()), (True, ())]
    forms += [Alike(), (Alike(), row[1]), (Alike(), ()), ("row", Alike()), ("any", Alike())]
    for value in forms:
        yield value, errors.BadFormula, {"path": ()}
        yield ("any", (row, value, None)), errors.BadFormula, {"path": (1, 1)}
        yield ("one", (("together", (row, row, value)), None)), errors.BadFormula, {"path": (1, 0, 1, 2)}
        yield nested(6, value), errors.BadFormula, {"path": (1, 0) * 5}
        yield nested(7, value), errors.TooGreat, {"most": 6}
    four = ("any", (row,) * 4)
    yield ("one", (four, four, four, four)), errors.TooGreat, {"most": 20}
    yield ("one", (four, four, four, ("any", (row, row, row, None)))), errors.TooGreat, {"most": 20}
    yield ("one", (four, four, four, ("any", (row, row, None, row)))), errors.BadFormula, {"path": (1, 3, 1, 2)}


WRONG = {
    "row": wrong_row, "rows": wrong_rows, "stair": wrong_stair, "numbers": wrong_numbers, "unit": wrong_unit,
    "cut unit": wrong_cut_unit, "steps": wrong_steps, "cuts": wrong_cuts, "blocks": wrong_blocks, "many": wrong_many,
    "formula": wrong_formula,
}


class YardCase(unittest.TestCase):
    """Tests with the assertions that this program needs."""

    def raises(self, error, told, function, *args):
        """Assert that a call raises just this error with just these attributes."""
        with self.assertRaises(errors.YardError) as caught:
            function(*args)
        self.assertIs(caught.exception.__class__, error)
        attributes = vars(caught.exception)
        self.assertEqual(sorted(attributes), sorted(told))
        for name, value in told.items():
            if name == "value":
                self.assertTrue(attributes[name] is value or attributes[name] == value, name)
                self.assertIs(type(attributes[name]), type(value))
            else:
                self.assertEqual(repr(attributes[name]), repr(value))

    def wrong_each(self, function, kinds, *args):
        """Assert what is raised for each wrong parameter, alone and ahead of wrong ones behind it.

        `args` are UNITS and values that may be wrong for the work, but not for the kinds; kind None is not checked.
        """
        units = args[0]
        spoilt = [None] + [None if kind is None else next(WRONG[kind](units))[0] for kind in kinds]
        for value, error, told in wrong_units():
            self.raises(error, told, function, value, *args[1:])
            self.raises(error, told, function, value, *spoilt[1:])
        for at, kind in enumerate(kinds, 1):
            for value, error, told in (WRONG[kind](units) if kind is not None else ()):
                with self.subTest(function=function.__name__, at=at, value=value):
                    self.raises(error, told, function, *args[:at], value, *args[at + 1:])
                    self.raises(error, told, function, *args[:at], value, *spoilt[at + 1:])

    def made_of_tuples(self, value):
        """Assert that a result is made of tuples, plain integers and strings, which nobody can change."""
        self.assertIn(type(value), (tuple, int, str, bool))
        if isinstance(value, tuple):
            for part in value:
                self.made_of_tuples(part)


    def judges(self, judge, good, *args):
        """Assert that a paper is good, and that it is not once a part of it is of no kind; `args` come ahead."""
        self.assertIs(judge(*args, good), True)
        for value in spoilt(good):
            with self.subTest(judge=judge.__name__, value=value):
                self.assertIs(judge(*args, value), False)
        for value in PAPERS:
            self.assertIn(judge(*args, value), (True, False))


def spoilt(value):
    """A value with one part of it, itself too, made to something that just looks like it, or of another kind."""
    yield Alike()
    yield b"" if value == "" else {}
    if isinstance(value, tuple):
        yield list(value)
        yield value + (None,)
        for at, part in enumerate(value):
            for other in spoilt(part):
                yield swapped(value, at, other)
    elif isinstance(value, str):
        yield value.encode()
        yield value.title()
    elif isinstance(value, int):
        yield str(value)
        yield (value,)
        if value in (0, 1):
            yield bool(value)


def product_of(*ranges):
    return itertools.product(*ranges)
