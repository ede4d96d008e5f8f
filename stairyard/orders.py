"""The least stock for whichever of some orders comes, and the greatest order that all of some stocks serve."""

from stairyard.errors import BadRows
from stairyard.plain import greater_of, lesser_of, row_made, stair_made, zeros
from stairyard.rows import need_rows


def least_for(units, rows):
    """Return the least row within which each of the rows lies, zeros for no rows."""
    need_rows(units, rows)
    stair = zeros(units)
    for row in rows:
        stair = greater_of(stair, stair_made(units, row))
    return row_made(units, stair)


def greatest_common(units, rows):
    """Return the greatest row that lies within each of the rows, of which there is at least one."""
    need_rows(units, rows)
    if not rows:
        raise BadRows(())
    stair = stair_made(units, rows[0])
    for row in rows[1:]:
        stair = lesser_of(stair, stair_made(units, row))
    return row_made(units, stair)
