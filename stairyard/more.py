"""What more may be brought or asked at a step of a world, and worlds side by side."""

from stairyard.errors import BadIndex, BadParameter, NoRow, TooGreat
from stairyard.plain import down_made, is_whole, minus, row_made, up_made, zeros
from stairyard.rings import endless_unit
from stairyard.worlds import counts_at, counts_of, greatest_walks, is_deed, need_world, ring_at, walks_to


def with_deed(units, world, step, deed):
    """Return the world in which a further deed comes behind a step, at a new place."""
    _need_step(units, world, step)
    if not is_deed(units, deed):
        raise BadParameter(deed)
    places, steps = world
    source, done, to = steps[step]
    led = (*steps[:step], (source, done, places), *steps[step + 1:], (places, deed, to))
    return _need_size(places + 1, led)


def least_more(units, world, step):
    """Return the least row that, brought behind each such step, lets some stock outlive the world."""
    _need_step(units, world, step)
    if _fails_without(units, world, step):
        raise NoRow()
    greatest = _greatest_rings(units, world, step)
    if greatest is None:
        return zeros(units)
    return row_made(units, up_made(units, greatest))


def most_more(units, world, step):
    """Return the greatest row that may be asked behind each such step; None if any row may."""
    _need_step(units, world, step)
    if endless_unit(units, world) is not None:
        raise NoRow()
    greatest = _greatest_rings(units, world, step)
    if greatest is None:
        return None
    return row_made(units, down_made(units, minus(zeros(units), greatest)))


def beside(units, one, other):
    """Return the world of two worlds, each of which goes on by its own steps."""
    need_world(units, one)
    need_world(units, other)
    many = other[0]
    steps = [(source * many + place, deed, to * many + place)
             for source, deed, to in one[1] for place in range(many)]
    steps.extend([(place * many + source, deed, place * many + to)
                  for source, deed, to in other[1] for place in range(one[0])])
    return _need_size(one[0] * many, tuple(steps))


def _need_step(units, world, step):
    need_world(units, world)
    if not is_whole(step, 0, len(world[1]) - 1):
        raise BadIndex(step)


def _need_size(places, steps):
    if places > 8:
        raise TooGreat(8)
    if len(steps) > 14:
        raise TooGreat(14)
    return (places, steps)


def _without(world, step):
    return (world[0], world[1][:step] + world[1][step + 1:])


def _fails_without(units, world, step):
    """Return whether a walk from place 0 leads to a ring that asks more and does not go over the step."""
    others = _without(world, step)
    for unit in range(len(units) + 1):
        counts = counts_at(units, others, unit)
        # The walk itself may go over the step.
        if any([ring_at(others, counts, place) is not None for place in walks_to(world, 0)]):
            return True
    return False


def _greatest_rings(units, world, step):
    """Return, for each unit, the greatest sum of counts of a ring that goes over the step once.

    None if there is no such ring to which a walk from place 0 leads. No other ring there asks more than it brings.
    """
    source, deed, to = world[1][step]
    others = _without(world, step)
    if source not in walks_to(world, 0) or source not in walks_to(others, to):
        return None
    sums = []
    for unit in range(len(units) + 1):
        rounds = greatest_walks(others, counts_at(units, others, unit), to, world[0] - 1)
        back = max([found[source][0] for found in rounds if source in found])
        sums.append(counts_of(units, deed)[unit] + back)
    return tuple(sums)
