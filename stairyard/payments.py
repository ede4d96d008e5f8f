"""Payments between two purses, in pieces that are not cut."""

from stairyard.errors import BadParameter, NoRow
from stairyard.plain import is_row, is_tuple_of, is_whole, nowhere_greater, stair_made
from stairyard.rows import need_row
from stairyard.units import sizes


def can_pay(units, one, other, amount):
    """Return whether an amount can be paid by one purse to the other one."""
    _need_amount(units, one, other, amount)
    return _blocked(units, one, other, amount) is None


def payment(units, one, other, amount):
    """Return what is given and what is given back, so that an amount is paid."""
    _need_amount(units, one, other, amount)
    if _blocked(units, one, other, amount) is not None:
        raise NoRow()
    # Behind each unit the lesser ones, with all that both purses have of them, must be able to pay what is left.
    gives, takes = (_totals_from(units, one), _totals_from(units, other))
    given, back = ([], [])
    left = amount
    for unit, size in enumerate(sizes(units)):
        least = -((gives[unit + 1] - left) // size)
        most = (left + takes[unit + 1]) // size
        many = max(least, min(most, 0))
        given.append(max(many, 0))
        back.append(max(-many, 0))
        left = left - many * size
    return (tuple(given), tuple(back))


def is_payment(units, one, other, amount, value):
    """Return whether a value is a payment that pays an amount."""
    _need_amount(units, one, other, amount)
    if not is_tuple_of(value, 2) or not all([is_row(units, row) for row in value]):
        return False
    given, back = value
    if not nowhere_greater(given, one) or not nowhere_greater(back, other):
        return False
    return stair_made(units, given)[-1] - stair_made(units, back)[-1] == amount


def blocked_unit(units, one, other, amount):
    """Return the greatest unit at which it shows that an amount cannot be paid."""
    _need_amount(units, one, other, amount)
    unit = _blocked(units, one, other, amount)
    if unit is None:
        raise NoRow()
    return unit


def first_unpaid(units, one, other):
    """Return the least amount, up to all that one purse has, that cannot be paid."""
    need_row(units, one)
    need_row(units, other)
    gives = _totals_from(units, one)
    # What the lesser pieces make can be paid; so only an amount just beyond it can be the first one that cannot.
    amounts = [total + 1 for total in gives[1:-1] if total < gives[0]]
    unpaid = [amount for amount in amounts if _blocked(units, one, other, amount) is not None]
    if not unpaid:
        raise NoRow()
    return min(unpaid)


def next_paid(units, one, other, amount):
    """Return the least amount from this one on that can be paid."""
    _need_amount(units, one, other, amount)
    least = max(amount, -stair_made(units, other)[-1])
    # But for the limits of both purses all comes again with each whole piece of the unit 0.
    for paid in range(least, least + sizes(units)[0]):
        if _blocked(units, one, other, paid) is None:
            return paid
    raise NoRow()


def _need_amount(units, one, other, amount):
    need_row(units, one)
    need_row(units, other)
    if not is_whole(amount, -(10 ** 60), 10 ** 60):
        raise BadParameter(amount)


def _totals_from(units, row):
    """Return what the pieces of each unit and of all lesser ones make, and 0 for none behind the last one."""
    totals = [0]
    for size, many in zip(sizes(units)[::-1], row[::-1]):
        totals.append(totals[-1] + size * many)
    return totals[::-1]


def _blocked(units, one, other, amount):
    """Return the greatest unit from which on the pieces cannot pay an amount but for whole greater pieces, or None."""
    gives, takes = (_totals_from(units, one), _totals_from(units, other))
    size = sizes(units)
    for unit in reversed(range(1, len(size))):
        if (amount + takes[unit]) // size[unit - 1] * size[unit - 1] < amount - gives[unit]:
            return unit
    return None if -takes[0] <= amount <= gives[0] else 0
