"""Steps between rows: pieces are cut, and here put together too."""

from stairyard.errors import BadSteps, TooGreat, Unlike
from stairyard.plain import cut_made, is_cut_unit, minus, stair_made
from stairyard.rows import need_row, stair_of


def stepped(units, row, steps):
    """Return the row behind steps."""
    need_row(units, row)
    _need_steps(units, steps)
    for index, step in enumerate(steps):
        row = _behind_step(units, row, step)
        if min(row) < 0:
            raise BadSteps((index,))
    return row


def steps_apart(units, one, other):
    """Return how many steps lead from a row to another one, as few as possible."""
    one_stair = stair_of(units, one)
    gaps = minus(one_stair, stair_of(units, other))
    if gaps[-1] != 0:
        raise Unlike(other)
    return sum([abs(gap) for gap in gaps])


def steps_between(units, one, other):
    """Return the least one, as tuples are compared, of the shortest rows of steps from one to other."""
    if steps_apart(units, one, other) > 60:
        raise TooGreat(60)
    steps = []
    row = one
    # The rest of a shortest row of steps is always there, so the least step that brings nearer is taken.
    # A row on the way may have more pieces of a unit than a parameter may, so it is not checked.
    while row != other:
        step = _least_nearer(units, row, minus(stair_made(units, row), stair_made(units, other)))
        steps.append(step)
        row = _behind_step(units, row, step)
    return tuple(steps)


def _need_steps(units, steps):
    if not isinstance(steps, tuple):
        raise BadSteps(())
    if len(steps) > 60:
        raise TooGreat(60)
    for index, step in enumerate(steps):
        if not _is_step(units, step):
            raise BadSteps((index,))


def _is_step(units, value):
    if not isinstance(value, tuple) or len(value) != 2:
        return False
    word, unit = value
    return isinstance(word, str) and word in ("cut", "join") and is_cut_unit(units, unit)


def _behind_step(units, row, step):
    """Return the row behind a step, with an item below 0 if pieces are lacking for it."""
    word, unit = step
    return cut_made(units, row, unit, 1 if word == "cut" else -1)


def _least_nearer(units, row, gaps):
    """Return the least step that can be done and brings the row nearer.

    A gap is how many cuts more than joins are to come at its unit.
    """
    cuts = [unit for unit, gap in enumerate(gaps) if gap > 0]
    # The first of these can always be done: above it no stair is too high, so there is a piece of its unit.
    if cuts:
        return ("cut", cuts[0])
    joins = [unit for unit in range(len(units)) if gaps[unit] < 0 and row[unit + 1] >= units[unit]]
    return ("join", joins[0])
