"""What the yards of a served tree have to spare, and the stock that an unserved one lacks at one yard."""

from stairyard.errors import NoRow, Unlike
from stairyard.plain import down_made, minus, plus, row_made, rows_made, up_made, zeros
from stairyard.yards import flat_yards, number_of, root_need, with_yard, yard_gaps


def allowed(units, tree):
    """Return the greatest row that each yard could be sent."""
    yards = flat_yards(units, tree)
    return rows_made(units, _allowed_stairs(units, yards, _served_gaps(units, yards)))


def spare(units, tree, path):
    """Return the greatest row that could be asked more at a yard."""
    number = number_of(units, tree, path)
    yards = flat_yards(units, tree)
    gaps = _served_gaps(units, yards)
    over = minus(_allowed_stairs(units, yards, gaps)[number], gaps[number])
    return row_made(units, down_made(units, over))


def least_added(units, tree, path):
    """Return the least row that makes the tree served if it is put beside the STOCK of a yard."""
    number = number_of(units, tree, path)
    gap = yard_gaps(units, flat_yards(units, tree))[number]
    # With stock enough the yard needs nothing, whatever stands under it; the others know it by its need alone.
    empty = (zeros(units), zeros(units), ())
    yards = flat_yards(units, with_yard(tree, path, empty))
    gaps = yard_gaps(units, yards)
    if any(root_need(units, gaps)):
        raise NoRow()
    sent = _allowed_stairs(units, yards, gaps)[number]
    return row_made(units, up_made(units, minus(gap, sent)))


def _served_gaps(units, yards):
    """Return the gaps of a served tree; raise Unlike with the need of the root of another one."""
    gaps = yard_gaps(units, yards)
    need = root_need(units, gaps)
    if any(need):
        raise Unlike(need)
    return gaps


def _allowed_stairs(units, yards, gaps):
    stairs = [zeros(units)]
    for number in range(1, len(yards)):
        above = yards[number][0]
        # The gap above counts this yard's need, too, which it does not share with itself.
        over = plus(minus(stairs[above], gaps[above]), up_made(units, gaps[number]))
        stairs.append(down_made(units, over))
    return stairs
