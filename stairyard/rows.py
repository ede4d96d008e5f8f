"""Rows and their stairs."""

from stairyard.errors import BadRow, BadRows, BadStair, NoRow
from stairyard.plain import added_up, first_greater, is_numbers, is_row, nowhere_greater, row_made, stair_made
from stairyard.units import need_units


def need_row(units, value):
    """Return a row: how many pieces of each unit there are."""
    need_units(units)
    if not is_row(units, value):
        raise BadRow(value)
    return value


def need_rows(units, value):
    """Return a tuple of at most 60 rows."""
    need_units(units)
    if not isinstance(value, tuple) or len(value) > 60:
        raise BadRows(())
    for index, row in enumerate(value):
        if not is_row(units, row):
            raise BadRows((index,))
    return value


def total(units, row):
    """Return how many pieces of the least unit a row makes."""
    return stair_of(units, row)[-1]


def side_by_side(units, rows):
    """Return the row with all of these rows added place by place."""
    return added_up(units, need_rows(units, rows))


def stair_of(units, row):
    """Return the stair of a row."""
    need_row(units, row)
    return stair_made(units, row)


def need_stair(units, value):
    """Return a stair whose integers are at most 10 ** 64."""
    need_units(units)
    if not is_numbers(units, value, 0, 10 ** 64):
        raise BadStair(value)
    if not all([ratio * above <= number for ratio, above, number in zip(units, value, value[1:])]):
        raise BadStair(value)
    return value


def row_of(units, stair):
    """Return the row that has this stair."""
    need_stair(units, stair)
    return row_made(units, stair)


def is_within(units, order, stock):
    """Return whether the order lies within the stock."""
    order_stair = stair_of(units, order)
    return nowhere_greater(order_stair, stair_of(units, stock))


def full_unit(units, order, stock):
    """Return the least unit at which the stair of the order is greater than that of the stock."""
    order_stair = stair_of(units, order)
    unit = first_greater(order_stair, stair_of(units, stock))
    if unit is None:
        raise NoRow()
    return unit
