"""Asks in turn, rows that are lost, pieces opened, and orders taken back."""

from stairyard.errors import BadParameter, BadUnit, NoRow
from stairyard.plain import alone, down_made, first_greater, is_unit, is_whole, minus, need_served, nowhere_greater
from stairyard.plain import plus, row_made, stair_made
from stairyard.rows import need_row, need_rows, stair_of
from stairyard.units import sizes


def served_in_turn(units, stock, asks):
    """Return how many asks are served in turn, at most, and the rest behind these."""
    left = stair_of(units, stock)
    need_rows(units, asks)
    count = 0
    for ask in asks:
        asked = stair_made(units, ask)
        if not nowhere_greater(asked, left):
            break
        left = down_made(units, minus(left, asked))
        count = count + 1
    return (count, row_made(units, left))


def lost_row(units, one, other):
    """Return a row of one unit alone that `one` serves and `other` does not."""
    one_stair = stair_of(units, one)
    other_stair = stair_of(units, other)
    unit = first_greater(one_stair, other_stair)
    if unit is None:
        raise NoRow()
    return alone(units, unit, other_stair[unit] + 1)


def opened(units, row, unit, to, many):
    """Return the row with so many pieces of a unit cut wholly into pieces of the unit `to`."""
    need_row(units, row)
    if not is_unit(units, unit):
        raise BadUnit(unit)
    if not is_unit(units, to) or to <= unit:
        raise BadUnit(to)
    if not is_whole(many, 0, 10 ** 60):
        raise BadParameter(many)
    if many > row[unit]:
        raise NoRow()
    made = many * (sizes(units)[unit] // sizes(units)[to])
    return plus(minus(row, alone(units, unit, many)), alone(units, to, made))


def taken_back(units, stock, order):
    """Return the row that is there if the order is served, its rest left, and comes back as it is."""
    stock_stair = stair_of(units, stock)
    order_stair = stair_of(units, order)
    need_served(order_stair, stock_stair)
    left = row_made(units, down_made(units, minus(stock_stair, order_stair)))
    return plus(left, order)
