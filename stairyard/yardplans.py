"""Plans of what may come at several yards, where an asked piece is served out of its own yard or one above it."""

from stairyard.errors import BadParameter, BadPlan, BadRows, NoRow
from stairyard.plain import alone, any_within, begins_with, behind_deed, greater_of, is_row, is_tuple_of, is_unit
from stairyard.plain import is_whole, least_kept, minus, nowhere_greater, plus, rows_made, stair_made, up_made
from stairyard.plain import walk_parts, zeros
from stairyard.plays import comes_from
from stairyard.units import need_units


def need_yard_plan(units, yards, value):
    """Return a yard plan, at most 16 deep and with at most 60 yard plans in it, itself too."""
    need_units(units)
    _need_yards(yards)
    walk_parts(value, 16, 60, lambda path, part: _parts(units, yards, path, part))
    return value


def yard_stocks(units, yards, plan):
    """Return the least tuples of stocks, one for each yard, with which all asks can be served."""
    need_yard_plan(units, yards, plan)
    found = _strategies(units, yards, plan)
    return tuple([rows_made(units, _parted(units, stairs)) for stairs in found])


def yard_lives(units, yards, plan, stocks):
    """Return whether all asks can be served with these stocks."""
    need_yard_plan(units, yards, plan)
    stairs = _need_stocks(units, yards, stocks)
    return any_within(list(_strategies(units, yards, plan)), stairs)


def root_stocks(units, yards, plan, stocks):
    """Return the least rows that are enough as the root's stock, the other yards having theirs."""
    need_yard_plan(units, yards, plan)
    many = len(units) + 1
    others = _need_stocks(units, yards, stocks)[many:]
    least = [stairs for stairs in _strategies(units, yards, plan) if nowhere_greater(stairs[many:], others)]
    return rows_made(units, least_kept([stairs[:many] for stairs in least]))


def yard_strategy(units, yards, plan, stocks):
    """Return a strategy that tells which plan is ours, and out of which yard each asked piece is served."""
    need_yard_plan(units, yards, plan)
    there = _need_stocks(units, yards, stocks)
    for stairs, found in _strategies(units, yards, plan).items():
        if nowhere_greater(stairs, there):
            return found
    raise NoRow()


def is_yard_strategy(units, yards, plan, stocks, value):
    """Return whether a value is a yard strategy with which all asks can be served out of the stocks."""
    need_yard_plan(units, yards, plan)
    left = _parted(units, _need_stocks(units, yards, stocks))
    if not comes_from(plan, value, lambda deed, told: _is_like(units, yards, deed, told)):
        return False
    return _serves(units, value, left)


def _need_yards(yards):
    if not isinstance(yards, tuple) or len(yards) > 3:
        raise BadParameter(yards)
    if not all([is_whole(above, 0, index) for index, above in enumerate(yards)]):
        raise BadParameter(yards)


def _need_stocks(units, yards, stocks):
    """Return the stairs of the stocks of all yards, one behind the other as one tuple."""
    if not is_tuple_of(stocks, len(yards) + 1):
        raise BadRows(())
    joined = ()
    for index, stock in enumerate(stocks):
        if not is_row(units, stock):
            raise BadRows((index,))
        joined = joined + stair_made(units, stock)
    return joined


def _parted(units, stairs):
    """Return the list of the stairs of all yards that stand one behind the other in a tuple."""
    many = len(units) + 1
    return [stairs[start:start + many] for start in range(0, len(stairs), many)]


def _parts(units, yards, path, value):
    """Return the yard plans directly within a yard plan and their indexes."""
    if begins_with(value, ("end",), 1):
        return []
    if begins_with(value, ("either", "ours"), 3):
        return [((1,), value[1]), ((2,), value[2])]
    asks = begins_with(value, ("ask",), 4) and is_unit(units, value[2])
    brings = begins_with(value, ("bring",), 4) and is_row(units, value[2])
    if (asks or brings) and is_whole(value[1], 0, len(yards)):
        return [((3,), value[3])]
    raise BadPlan(path)


def _yards_from(yards, yard):
    """Return the yard, the one directly above it, and so on to the root."""
    found = [yard]
    while found[-1] != 0:
        found.append(yards[found[-1] - 1])
    return found


def _at_yard(units, yards, yard, stair):
    """Return the stairs of all yards, one behind the other, this one's as told and the others of no pieces."""
    many = len(units) + 1
    return (0,) * (many * yard) + stair + (0,) * (many * (len(yards) - yard))


def _strategies(units, yards, plan):
    """Return a yard strategy for each least tuple of stocks, told by the stairs one behind the other, ascending."""
    word = plan[0]
    if word == "end":
        return {zeros(units) * (len(yards) + 1): plan}
    below = _strategies(units, yards, plan[-1])
    if word == "ask":
        found = _ahead_of_ask(units, yards, plan, below)
    elif word == "bring":
        found = _ahead_of_bring(units, yards, plan, below)
    else:
        found = _ahead_of_both(word, _strategies(units, yards, plan[1]), below)
    return {stairs: found[stairs] for stairs in least_kept(list(found))}


def _ahead_of_ask(units, yards, plan, below):
    word, yard, unit, _ = plan
    found = {}
    for server in _yards_from(yards, yard):
        piece = _at_yard(units, yards, server, stair_made(units, alone(units, unit, 1)))
        for stairs in below:
            found[plus(stairs, piece)] = (word, server, unit, below[stairs])
    return found


def _ahead_of_bring(units, yards, plan, below):
    word, yard, row, _ = plan
    brought = _at_yard(units, yards, yard, stair_made(units, row))
    found = {}
    for stairs in below:
        missing = ()
        for numbers in _parted(units, minus(stairs, brought)):
            missing = missing + up_made(units, numbers)
        found[missing] = (word, yard, row, below[stairs])
    return found


def _ahead_of_both(word, first, second):
    if word == "ours":
        return {stairs: first[stairs] if stairs in first else second[stairs] for stairs in [*first, *second]}
    return {greater_of(one, other): (word, first[one], second[other]) for one in first for other in second}


def _is_like(units, yards, deed, told):
    """Return whether what stands ahead of the next plan is alike, but for the yard that serves an asked piece."""
    word, yard, what = deed
    if not is_whole(told[1], 0, len(yards)):
        return False
    if word == "ask":
        return told[1] in _yards_from(yards, yard) and is_unit(units, told[2]) and told[2] == what
    return told[1] == yard and is_row(units, told[2]) and told[2] == what


def _serves(units, plan, left):
    """Return whether all asks are served out of the yards that the yard strategy tells, their stairs being left."""
    word = plan[0]
    if word == "end":
        return True
    if word == "either":
        return _serves(units, plan[1], left) and _serves(units, plan[2], left)
    yard, what = plan[1:3]
    row = alone(units, what, 1) if word == "ask" else what
    behind = behind_deed(units, left[yard], (word, row))
    return behind is not None and _serves(units, plan[3], [*left[:yard], behind, *left[yard + 1:]])
