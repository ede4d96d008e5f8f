"""The rows between two rows: how many there are, which ones, and the longest line of them."""

from stairyard.errors import NoRow, TooGreat
from stairyard.plain import minus, row_made, stair_made
from stairyard.rows import need_row, stair_of


def count_between(units, low, high):
    """Return how many rows there are within which `low` lies and that lie within `high`."""
    low_stair = stair_of(units, low)
    high_stair = stair_of(units, high)
    if max(high_stair) > 1000:
        raise TooGreat(1000)
    # counts[number]: in how many ways a stair goes on from the unit at hand if it is there at least this number.
    counts = []
    for unit in reversed(range(len(high_stair))):
        counts = _counts_above(units, unit, low_stair[unit], high_stair[unit], counts)
    return counts[0]


def rows_between(units, low, high):
    """Return the ascending tuple of these rows, of which there are at most 400."""
    many = count_between(units, low, high)
    if many > 400:
        raise TooGreat(400)
    if many == 0:
        return ()
    # Each stair begun so can be gone on with, as `low` lies within `high`: there are never more than at the end.
    stairs = [()]
    for low_item, high_item in zip(stair_made(units, low), stair_made(units, high)):
        stairs = [(*stair, number) for stair in stairs
                  for number in range(max(low_item, _least_item(units, stair)), high_item + 1)]
    return tuple([row_made(units, stair) for stair in stairs])


def row_steps(units, low, high):
    """Return how many rows the longest line from `low` to `high` has, both ends counted."""
    need_row(units, low)
    need_row(units, high)
    gaps = minus(stair_made(units, high), stair_made(units, low))
    if min(gaps) < 0:
        raise NoRow()
    return sum(gaps) + 1


def _counts_above(units, unit, low_item, high_item, below):
    """Return the counts of a unit out of those of the unit below it."""
    counts = [0]
    for number in reversed(range(high_item + 1)):
        ways = 0
        if number >= low_item:
            ways = below[units[unit] * number] if unit < len(units) else 1
        counts.append(counts[-1] + ways)
    return counts[::-1]


def _least_item(units, stair):
    """Return the least item with which a begun stair goes on."""
    if not stair:
        return 0
    return units[len(stair) - 1] * stair[-1]
