"""Formulas: what a stock must be enough for, and the least rows that are."""

from stairyard.errors import BadFormula
from stairyard.plain import any_within, begins_with, greater_of, is_row, least_apart, least_kept, plus, row_made
from stairyard.plain import rows_made, stair_made, walk_parts, zeros
from stairyard.rows import stair_of
from stairyard.units import need_units


def need_formula(units, value):
    """Return a formula, at most 6 deep and with at most 20 formulas in it, itself too."""
    need_units(units)
    walk_parts(value, 6, 20, lambda path, part: _parts(units, path, part))
    return value


def formula_stocks(units, formula):
    """Return the least rows of the stocks that are enough for the formula."""
    need_formula(units, formula)
    return rows_made(units, _least_stairs(units, formula))


def is_enough_for(units, formula, stock):
    """Return whether the stock is enough for the formula."""
    need_formula(units, formula)
    stair = stair_of(units, stock)
    return any_within(_least_stairs(units, formula), stair)


def formula_apart(units, first, second):
    """Return the least one of the least rows of both that is enough for just one of them."""
    need_formula(units, first)
    need_formula(units, second)
    return row_made(units, least_apart(_least_stairs(units, first), _least_stairs(units, second)))


def _parts(units, path, value):
    """Return the formulas directly within a formula and their indexes."""
    if begins_with(value, ("row",), 2) and is_row(units, value[1]):
        return []
    if not begins_with(value, ("together", "any", "one"), 2):
        raise BadFormula(path)
    inner = value[1]
    if not isinstance(inner, tuple) or len(inner) > 4:
        raise BadFormula(path)
    return [((1, index), part) for index, part in enumerate(inner)]


def _least_stairs(units, formula):
    """Return the stairs of the least rows, which ascend as their rows do."""
    word, inner = formula
    if word == "row":
        return [stair_made(units, inner)]
    parts = [_least_stairs(units, part) for part in inner]
    if not parts:
        return [] if word == "one" else [zeros(units)]
    found = parts[0]
    for part in parts[1:]:
        found = least_kept(_both(word, found, part))
    return found


def _both(word, one, other):
    """Return the stairs that come of two formulas under the word, the least ones among them."""
    if word == "together":
        return [plus(first, second) for first in one for second in other]
    if word == "any":
        return [greater_of(first, second) for first in one for second in other]
    return one + other
