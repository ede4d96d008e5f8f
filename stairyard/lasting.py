"""What the first so many steps of a world ask, how long a stock lasts, and plans of these steps."""

from stairyard.errors import BadParameter, TooGreat
from stairyard.plain import is_whole, nowhere_greater, row_made
from stairyard.rows import stair_of
from stairyard.units import sizes
from stairyard.worlds import counts_of, need_world, outlives


def needs_within(units, world, steps):
    """Return the least row of each place that serves all asks among the first so many steps of all runs from there."""
    need_world(units, world)
    if not is_whole(steps, 0, 10 ** 9):
        raise BadParameter(steps)
    told = _nothing(units, world)
    table = _step_table(units, world)
    while steps > 0:
        if steps % 2 == 1:
            told = _told_ahead(table, told)
        steps = steps // 2
        table = _behind_each_other(table)
    return tuple([row_made(units, _stair_at(units, told, place)) for place in range(world[0])])


def how_long(units, world, stock):
    """Return with how many steps, at most, the stock serves all asks; None if it outlives the world."""
    need_world(units, world)
    stair = stair_of(units, stock)
    if outlives(units, world, stock):
        return None
    # The tables are those of 1 step, of 2, of 4, and so on, up to the first number that is too many.
    tables = [_step_table(units, world)]
    while _is_enough(units, stair, _told_ahead(tables[-1], _nothing(units, world))):
        tables.append(_behind_each_other(tables[-1]))
    many = 0
    told = _nothing(units, world)
    for table in reversed(tables):
        many = 2 * many
        further = _told_ahead(table, told)
        if _is_enough(units, stair, further):
            told = further
            many = many + 1
    return many


def as_plan(units, world, steps):
    """Return the plan of the first so many steps from place 0."""
    need_world(units, world)
    if not is_whole(steps, 0, 60):
        raise BadParameter(steps)
    # For each place the plan of the steps so far, how many parts it has and how deep it is: plans share their
    # parts here, so even those with far too many can be made and left.
    found = [(("end",), 1, 1) for _ in range(world[0])]
    for _ in range(steps):
        found = [_plan_from(world, place, found) for place in range(world[0])]
    plan, many, deep = found[0]
    if many > 60:
        raise TooGreat(60)
    if deep > 16:
        raise TooGreat(16)
    return plan


def _plan_from(world, place, ahead):
    """Return the plan from a place, its parts and its depth, out of those of one step less from all places."""
    ways = [_plan_by(deed, ahead[to]) for source, deed, to in world[1] if source == place]
    if not ways:
        return (("end",), 1, 1)
    plan, many, deep = ways[-1]
    for first, first_many, first_deep in reversed(ways[:-1]):
        plan = ("either", first, plan)
        many = first_many + many + 1
        deep = max(first_deep, deep) + 1
    return (plan, many, deep)


def _plan_by(deed, ahead):
    if deed[0] == "pass":
        return ahead
    plan, many, deep = ahead
    return ((*deed, plan), many + 1, deep + 1)


def _nothing(units, world):
    return [0] * (world[0] * (len(units) + 1))


def _step_table(units, world):
    """Return what one step, or none, counts from each place and unit to each place and no lesser unit.

    A place and a unit have the number PLACE * (T + 1) + UNIT. All counts are in pieces of the least unit: then what
    is needed at a unit is the greatest sum of counts along steps, each counted at some unit that is no lesser one
    than that of the step ahead of it.
    """
    size = sizes(units)
    many = len(size)
    table = [{number: 0} for number in range(world[0] * many)]
    for source, deed, to in world[1]:
        for unit, count in enumerate(counts_of(units, deed)):
            number = to * many + unit
            made = count * size[unit]
            for row in table[source * many + unit:(source + 1) * many]:
                row[number] = max(made, row.get(number, made))
    return table


def _told_ahead(table, told):
    """Return what is needed ahead of the steps of a table, if `told` is needed behind them."""
    return [max([count + told[number] for number, count in row.items()]) for row in table]


def _behind_each_other(table):
    """Return the table of twice as many steps."""
    doubled = []
    for row in table:
        found = {}
        for between, count in row.items():
            for number, further in table[between].items():
                made = count + further
                if number not in found or made > found[number]:
                    found[number] = made
        doubled.append(found)
    return doubled


def _stair_at(units, told, place):
    size = sizes(units)
    return tuple([made // piece for made, piece in zip(told[place * len(size):], size)])


def _is_enough(units, stair, told):
    return nowhere_greater(_stair_at(units, told, 0), stair)
