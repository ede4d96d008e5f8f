"""Formulas: what a stock must be enough for, and the least rows that are."""

from stairyard.errors import BadFormula, NoRow, TooGreat
from stairyard.plain import greater_of, is_row, least_kept, nowhere_greater, plus, row_made, stair_made, zeros
from stairyard.rows import need_row
from stairyard.units import need_units


def need_formula(units, value):
    """Return a formula, at most 6 deep and with at most 20 formulas in it, itself too."""
    need_units(units)
    _walk(units, value, (), 0)
    return value


def formula_stocks(units, formula):
    """Return the least rows of the stocks that are enough for the formula."""
    need_formula(units, formula)
    return _least_rows(units, formula)


def is_enough_for(units, formula, stock):
    """Return whether the stock is enough for the formula."""
    need_formula(units, formula)
    need_row(units, stock)
    return _is_enough(units, _least_rows(units, formula), stock)


def formula_apart(units, first, second):
    """Return the least one of the least rows of both that is enough for just one of them."""
    need_formula(units, first)
    need_formula(units, second)
    of_first = _least_rows(units, first)
    of_second = _least_rows(units, second)
    apart = [row for row in of_first if not _is_enough(units, of_second, row)]
    apart.extend([row for row in of_second if not _is_enough(units, of_first, row)])
    if not apart:
        raise NoRow()
    return min(apart)


def _walk(units, value, path, met):
    """Check a value met behind so many others; return how many are met with those within it."""
    # Each step down puts two indexes into the path.
    if len(path) // 2 >= 6:
        raise TooGreat(6)
    if met >= 20:
        raise TooGreat(20)
    if not _has_form(units, value):
        raise BadFormula(path)
    met = met + 1
    if value[0] != "row":
        for index, part in enumerate(value[1]):
            met = _walk(units, part, path + (1, index), met)
    return met


def _has_form(units, value):
    """Return whether a value has the form of a formula, whatever the things within it are."""
    if not isinstance(value, tuple) or len(value) != 2:
        return False
    word, inner = value
    if not isinstance(word, str):
        return False
    if word == "row":
        return is_row(units, inner)
    return word in ("together", "any", "one") and isinstance(inner, tuple) and len(inner) <= 4


def _least_rows(units, formula):
    return tuple([row_made(units, stair) for stair in _least_stairs(units, formula)])


def _least_stairs(units, formula):
    """Return the stairs of the least rows, which ascend as their rows do."""
    word, inner = formula
    if word == "row":
        return [stair_made(units, inner)]
    parts = [_least_stairs(units, part) for part in inner]
    if not parts:
        return [] if word == "one" else [zeros(units)]
    found = parts[0]
    for part in parts[1:]:
        found = least_kept(_both(word, found, part))
    return found


def _both(word, one, other):
    """Return the stairs that come of two formulas under the word, the least ones among them."""
    if word == "together":
        return [plus(first, second) for first in one for second in other]
    if word == "any":
        return [greater_of(first, second) for first in one for second in other]
    return one + other


def _is_enough(units, least_rows, stock):
    stair = stair_made(units, stock)
    return any([nowhere_greater(stair_made(units, row), stair) for row in least_rows])
