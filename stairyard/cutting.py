"""Cuts done one by one, and the fewest ones with which a stock serves an order."""

from stairyard.errors import BadSteps, BadUnit, NoRow, TooGreat
from stairyard.plain import cut_made, is_cut_unit, need_served, nowhere_greater
from stairyard.rows import need_row, stair_of


def cut_once(units, row, unit):
    """Return the row behind one cut at a unit."""
    need_row(units, row)
    if not is_cut_unit(units, unit):
        raise BadUnit(unit)
    if row[unit] == 0:
        raise NoRow()
    return cut_made(units, row, unit, 1)


def cut_by(units, row, cuts):
    """Return the row behind cuts at these units in turn."""
    need_row(units, row)
    if not isinstance(cuts, tuple):
        raise BadSteps(())
    if len(cuts) > 60:
        raise TooGreat(60)
    for index, unit in enumerate(cuts):
        if not _can_cut(units, row, unit):
            raise BadSteps((index,))
        row = cut_made(units, row, unit, 1)
    return row


def fewest_cuts(units, stock, order):
    """Return the least number of cuts at each unit with which the stock serves the order."""
    stock_stair = stair_of(units, stock)
    need_served(stair_of(units, order), stock_stair)
    upwards = [0]
    for unit in reversed(range(len(units))):
        missing = order[unit + 1] + upwards[-1] - stock[unit + 1]
        # The pieces that are left over of the last cut do not make it needless: rounded up.
        upwards.append(max(0, -(-missing // units[unit])))
    return tuple(upwards[:0:-1])


def cut_plan(units, stock, order):
    """Return the units of the fewest cuts, one by one, the greatest pieces first."""
    fewest = fewest_cuts(units, stock, order)
    if sum(fewest) > 60:
        raise TooGreat(60)
    return tuple([unit for unit, many in enumerate(fewest) for _ in range(many)])


def is_cut_plan(units, stock, order, value):
    """Return whether a value is a tuple of at most 60 cuts behind which the stock has all that is asked."""
    need_row(units, stock)
    need_row(units, order)
    if not isinstance(value, tuple) or len(value) > 60:
        return False
    row = stock
    for unit in value:
        if not _can_cut(units, row, unit):
            return False
        row = cut_made(units, row, unit, 1)
    return nowhere_greater(order, row)


def _can_cut(units, row, unit):
    return is_cut_unit(units, unit) and row[unit] > 0
