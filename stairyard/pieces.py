"""Layings of an order in a stock, pieces put into blocks, and the greatest lot of an order."""

from stairyard.errors import BadParameter, TooGreat
from stairyard.plain import added_up, alone, is_row, is_unit, need_served, nowhere_greater, row_made, stair_made
from stairyard.rows import need_row, stair_of
from stairyard.units import need_units


def laying(units, stock, order):
    """Return one laying of the order: a row for each unit of the stock, cut out of its pieces."""
    stock_stair = stair_of(units, stock)
    need_served(stair_of(units, order), stock_stair)
    return _filled(units, _pieces_by_unit(units, stock), order)


def is_laying(units, stock, order, value):
    """Return whether a value is a laying of the order in the stock."""
    need_row(units, stock)
    need_row(units, order)
    return _fills(units, _pieces_by_unit(units, stock), order, value)


def packed(units, blocks, order):
    """Return the row in each block, each piece of the order put into the first block with room."""
    pieces = _need_blocks(units, blocks)
    need_row(units, order)
    if sum(order) > 1000:
        raise TooGreat(1000)
    need_served(stair_made(units, order), stair_made(units, added_up(units, pieces)))
    return _filled(units, pieces, order)


def is_packed(units, blocks, order, value):
    """Return whether a value is a row for each block, within it, that are together the order."""
    pieces = _need_blocks(units, blocks)
    need_row(units, order)
    return _fills(units, pieces, order, value)


def greatest_lot(units, stock, order):
    """Return the greatest part of the order, piece by piece, that the stock serves."""
    stock_stair = stair_of(units, stock)
    need_row(units, order)
    lot = [min(stock_stair[0], order[0])]
    for ratio, most, many in zip(units, stock_stair[1:], order[1:]):
        lot.append(min(most, ratio * lot[-1] + many))
    return row_made(units, tuple(lot))


def _need_blocks(units, blocks):
    """Return the row of the one piece that each block is."""
    need_units(units)
    if not isinstance(blocks, tuple):
        raise BadParameter(blocks)
    if len(blocks) > 60:
        raise TooGreat(60)
    if not all([is_unit(units, block) for block in blocks]):
        raise BadParameter(blocks)
    return [alone(units, block, 1) for block in blocks]


def _pieces_by_unit(units, stock):
    """Return, for each unit, the row of the stock's pieces of this unit."""
    return [alone(units, unit, many) for unit, many in enumerate(stock)]


def _filled(units, holders, order):
    """Return the row put into each holder, unit by unit, each piece into the first holder with room.

    What a holder holds is a whole number of pieces of the unit at hand, all pieces ahead being greater ones.
    """
    tops = [stair_made(units, holder) for holder in holders]
    held = [0 for _ in holders]
    rows = [[] for _ in holders]
    for unit, left in enumerate(order):
        if unit > 0:
            held = [units[unit - 1] * many for many in held]
        for index, top in enumerate(tops):
            many = min(left, top[unit] - held[index])
            held[index] = held[index] + many
            rows[index].append(many)
            left = left - many
    return tuple([tuple(row) for row in rows])


def _fills(units, holders, order, value):
    """Return whether a value is a tuple of rows, one within each holder, that are together the order."""
    if not isinstance(value, tuple) or len(value) != len(holders):
        return False
    if not all([is_row(units, row) for row in value]):
        return False
    for row, holder in zip(value, holders):
        if not nowhere_greater(stair_made(units, row), stair_made(units, holder)):
            return False
    return added_up(units, value) == order
