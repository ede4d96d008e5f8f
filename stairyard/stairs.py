"""UP and DOWN, what a stock lacks and what it has left, greater and lesser rows."""

from stairyard.errors import BadNumbers, NoRow
from stairyard.plain import down_made, greater_of, is_numbers, lesser_of, minus, row_made, up_made
from stairyard.rows import stair_of
from stairyard.units import need_units


def need_numbers(units, value):
    """Return a tuple with an integer from -10 ** 64 to 10 ** 64 for each unit."""
    need_units(units)
    if not is_numbers(units, value, -10 ** 64, 10 ** 64):
        raise BadNumbers(value)
    return value


def up(units, numbers):
    """Return the least stair that is nowhere less than the numbers."""
    need_numbers(units, numbers)
    return up_made(units, numbers)


def down(units, numbers):
    """Return the greatest stair that is nowhere greater than the numbers; NoRow if one is below 0."""
    need_numbers(units, numbers)
    if min(numbers) < 0:
        raise NoRow()
    return down_made(units, numbers)


def lack(units, order, stock):
    """Return the least row that serves the order together with the stock."""
    order_stair = stair_of(units, order)
    return row_made(units, up_made(units, minus(order_stair, stair_of(units, stock))))


def rest(units, stock, order):
    """Return the greatest row that the stock serves together with the order; NoRow if it serves no such."""
    stock_stair = stair_of(units, stock)
    over = minus(stock_stair, stair_of(units, order))
    if min(over) < 0:
        raise NoRow()
    return row_made(units, down_made(units, over))


def higher_of(units, one, other):
    """Return the least row that serves whichever of both rows is asked."""
    one_stair = stair_of(units, one)
    return row_made(units, greater_of(one_stair, stair_of(units, other)))


def lower_of(units, one, other):
    """Return the greatest row that both rows serve."""
    one_stair = stair_of(units, one)
    return row_made(units, lesser_of(one_stair, stair_of(units, other)))
