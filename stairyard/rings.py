"""Rings that ask more than they bring, and walks on which a stock fails."""

from stairyard.errors import NoRow
from stairyard.plain import first_greater, is_from, is_tuple_of, is_unit, stair_made
from stairyard.rows import need_row, stair_of
from stairyard.units import sizes
from stairyard.worlds import counts_at, is_step_from, need_rounds, need_world, ring_at, walks_to


def endless_unit(units, world):
    """Return the least unit at which a ring behind a walk from place 0 asks more than it brings, None for none."""
    need_world(units, world)
    found = _ring_found(units, world)
    return None if found is None else found[0]


def ring_of(units, world):
    """Return this unit, a walk from place 0 and such a ring."""
    need_world(units, world)
    found = _ring_found(units, world)
    if found is None:
        raise NoRow()
    return found


def is_ring(units, world, value):
    """Return whether a value is a unit, a walk from place 0 and a ring there that asks more at this unit."""
    need_world(units, world)
    if not is_tuple_of(value, 3) or not is_unit(units, value[0]):
        return False
    unit, walk, ring = value
    place = _place_behind(world, 0, walk)
    if place is None or ring == () or _place_behind(world, place, ring) != place:
        return False
    return _sum_of(counts_at(units, world, unit), ring) > 0


def failing_walk(units, world, stock):
    """Return a walk, told unit by unit, on which the stock cannot serve all asks."""
    need_world(units, world)
    stair = stair_of(units, stock)
    found = _ring_found(units, world)
    if found is not None:
        return _by_ring(units, world, stair, found)
    rounds = need_rounds(units, world)
    unit = first_greater(rounds[-1][0], stair)
    if unit is None:
        raise NoRow()
    walks = _by_rounds(units, world, rounds, unit)
    return (unit, tuple([((tuple(walk), 1),) if walk else () for walk in walks]))


def is_failing_walk(units, world, stock, value):
    """Return whether a value is a walk, told unit by unit, on which the stock cannot serve all asks."""
    need_world(units, world)
    need_row(units, stock)
    if not is_tuple_of(value, 2) or not is_unit(units, value[0]) or not is_tuple_of(value[1], value[0] + 1):
        return False
    unit, things = value
    place = 0
    sums = []
    for level, thing in zip(reversed(range(unit + 1)), things):
        found = _gone_through(world, counts_at(units, world, level), place, thing)
        if found is None:
            return False
        place, together = found
        sums.append(together)
    counted = sums[-1]
    for ratio, together in zip(units, sums[-2::-1]):
        counted = together + ratio * counted
    return counted > stair_made(units, stock)[unit]


def _ring_found(units, world):
    """Return what `ring_of` returns, None if there is no such ring."""
    walks = walks_to(world, 0)
    for unit in range(len(units) + 1):
        counts = counts_at(units, world, unit)
        for place in walks:
            ring = ring_at(world, counts, place)
            if ring is not None:
                return (unit, walks[place], ring)
    return None


def _place_behind(world, place, walk):
    """Return the place to which a walk from a place leads; None for what is no walk from there."""
    if not isinstance(walk, tuple):
        return None
    for index in walk:
        if not is_step_from(world, place, index):
            return None
        place = world[1][index][2]
    return place


def _sum_of(counts, walk):
    return sum([counts[index] for index in walk])


def _by_ring(units, world, stair, found):
    """Return the failing walk that goes round a ring often enough."""
    unit, walk, ring = found
    counts = counts_at(units, world, unit)
    over = stair[unit] - _sum_of(counts, walk)
    # Once at least: the walk alone may ask more than there is, but the ring is there anyway.
    times = max(1, over // _sum_of(counts, ring) + 1)
    ahead = ((walk, 1),) if walk else ()
    return (unit, ((*ahead, (ring, times)), *[() for _ in range(unit)]))


def _by_rounds(units, world, rounds, unit):
    """Return the steps counted at the unit, then those at the next greater one, and so on to 0.

    They make the need of place 0 at the unit, traced from the last round to the first one.
    """
    walks = [[] for _ in range(unit + 1)]
    place = 0
    level = unit
    for told, behind in zip(rounds[::-1], rounds[-2::-1]):
        if told[place][level] == 0:
            break
        index, level = _step_that_tells(units, world, place, level, told[place][level], behind)
        place = world[1][index][2]
        walks[unit - level].append(index)
    return walks


def _step_that_tells(units, world, place, level, need, behind):
    """Return a step from a place and a unit, `level` or one ahead of it, at which its count makes the need at `level`.

    `behind` are the stairs that are needed behind the step.
    """
    size = sizes(units)
    found = []
    for unit in range(level + 1):
        counts = counts_at(units, world, unit)
        found.extend([(index, unit) for index, (source, _, to) in enumerate(world[1])
                      if source == place and (counts[index] + behind[to][unit]) * size[unit] == need * size[level]])
    return found[0]


def _gone_through(world, counts, place, value):
    """Return the place to which a thing of a failing walk leads from a place, and its sum; None for no such thing."""
    if not isinstance(value, tuple):
        return None
    together = 0
    for pair in value:
        if not is_tuple_of(pair, 2) or pair[0] == () or not is_from(pair[1], 1):
            return None
        steps, times = pair
        to = _place_behind(world, place, steps)
        if to is None or times > 1 and to != place:
            return None
        together = together + times * _sum_of(counts, steps)
        place = to
    return (place, together)
