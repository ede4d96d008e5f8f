"""Plans of what may come, the stocks that live with them, and what these lack or have to spare."""

from stairyard.errors import BadPlan
from stairyard.plain import begins_with, behind_deed, down_made, greater_of, is_row, least_apart, least_kept, minus
from stairyard.plain import nowhere_greater, plus, row_made, rows_made, stair_made, up_made, walk_parts, zeros
from stairyard.rows import stair_of
from stairyard.units import need_units


def need_plan(units, value):
    """Return a plan, at most 16 deep and with at most 60 plans in it, itself too."""
    need_units(units)
    walk_parts(value, 16, 60, lambda path, part: _parts(units, path, part))
    return value


def lives(units, plan, stock):
    """Return whether a stock can serve all asks of a plan, whatever the world chooses."""
    need_plan(units, plan)
    return lives_on(units, plan, stair_of(units, stock))


def plan_stocks(units, plan):
    """Return the least rows of the stocks that live with a plan."""
    need_plan(units, plan)
    return rows_made(units, _least_stairs(units, plan))


def plan_lacks(units, plan, stock):
    """Return the least rows that make the stock live if they are put beside it."""
    need_plan(units, plan)
    stair = stair_of(units, stock)
    lacks = [up_made(units, minus(least, stair)) for least in _least_stairs(units, plan)]
    return rows_made(units, least_kept(lacks))


def still_asked(units, plan, stock):
    """Return the greatest rows that may be asked ahead of a plan such that the stock lives with both."""
    need_plan(units, plan)
    stair = stair_of(units, stock)
    within = [least for least in _least_stairs(units, plan) if nowhere_greater(least, stair)]
    return rows_made(units, _greatest_kept([down_made(units, minus(stair, least)) for least in within]))


def plans_apart(units, first, second):
    """Return the least one of the least rows of both plans that lives with just one of them."""
    need_plan(units, first)
    need_plan(units, second)
    return row_made(units, least_apart(_least_stairs(units, first), _least_stairs(units, second)))


def put_behind(units, first, second):
    """Return the first plan with the second one in the place of each end."""
    need_plan(units, first)
    need_plan(units, second)
    return need_plan(units, _with_ends(first, second))


def lives_on(units, plan, left):
    """Return whether what is left, a stair, lives with a plan; each ask is best served with its rest left."""
    word = plan[0]
    if word == "end":
        return True
    if word == "either":
        return lives_on(units, plan[1], left) and lives_on(units, plan[2], left)
    if word == "ours":
        return lives_on(units, plan[1], left) or lives_on(units, plan[2], left)
    behind = behind_deed(units, left, plan[:2])
    return behind is not None and lives_on(units, plan[2], behind)


def _parts(units, path, value):
    """Return the plans directly within a plan and their indexes."""
    if begins_with(value, ("end",), 1):
        return []
    if begins_with(value, ("ask", "bring"), 3) and is_row(units, value[1]):
        return [((2,), value[2])]
    if begins_with(value, ("either", "ours"), 3):
        return [((1,), value[1]), ((2,), value[2])]
    raise BadPlan(path)


def _least_stairs(units, plan):
    """Return the stairs of the least rows of the stocks that live, ascending."""
    word = plan[0]
    if word == "end":
        return [zeros(units)]
    below = _least_stairs(units, plan[2])
    if word == "ask":
        return [plus(stair_made(units, plan[1]), stair) for stair in below]
    if word == "bring":
        return least_kept([up_made(units, minus(stair, stair_made(units, plan[1]))) for stair in below])
    first = _least_stairs(units, plan[1])
    if word == "ours":
        return least_kept(first + below)
    return least_kept([greater_of(one, other) for one in first for other in below])


def _greatest_kept(stairs):
    """Return the ascending list of those of some stairs that lie within no other one."""
    kept = []
    # A stair stands behind those within which it lies in this order.
    for stair in sorted(stairs, reverse=True):
        if not any([nowhere_greater(stair, greatest) for greatest in kept]):
            kept.append(stair)
    return kept[::-1]


def _with_ends(plan, last):
    word = plan[0]
    if word == "end":
        return last
    if word in ("ask", "bring"):
        return (word, plan[1], _with_ends(plan[2], last))
    return (word, _with_ends(plan[1], last), _with_ends(plan[2], last))
