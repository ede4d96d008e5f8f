"""Worlds that go on for ever: what each of their places needs, and what is left behind a walk."""

from stairyard.errors import BadSteps, BadWorld, NoRow, TooGreat
from stairyard.plain import begins_with, behind_deed, greater_of, is_great_row, is_row, is_tuple_of, is_whole, minus
from stairyard.plain import nowhere_greater, plus, row_made, stair_made, up_made, zeros
from stairyard.rows import stair_of
from stairyard.units import need_units


def need_world(units, value):
    """Return a world (PLACES, STEPS)."""
    need_units(units)
    if not is_tuple_of(value, 2):
        raise BadWorld(())
    places, steps = value
    if not is_whole(places, 1, 8):
        raise BadWorld((0,))
    if not isinstance(steps, tuple) or len(steps) > 14:
        raise BadWorld((1,))
    for index, step in enumerate(steps):
        if not _is_step(units, places, step):
            raise BadWorld((1, index))
    return value


def world_needs(units, world):
    """Return the need of each place, None where no stock outlives the world."""
    need_world(units, world)
    endless = [place for place in range(world[0]) if _is_on_ring(units, world, place)]
    found = []
    for place, stair in enumerate(need_rounds(units, world)[-1]):
        lost = any([to in endless for to in walks_to(world, place)])
        found.append(None if lost else row_made(units, stair))
    return tuple(found)


def outlives(units, world, stock):
    """Return whether a stock serves all asks of all runs from place 0, for ever."""
    need_world(units, world)
    stair = stair_of(units, stock)
    need = world_needs(units, world)[0]
    return need is not None and nowhere_greater(stair_made(units, need), stair)


def is_table(units, world, value):
    """Return whether a value has rows for places, or None, with which no step leads to a place that needs more."""
    need_world(units, world)
    if not is_tuple_of(value, world[0]):
        return False
    if not all([row is None or is_great_row(units, row) for row in value]):
        return False
    for source, deed, to in world[1]:
        if value[source] is not None:
            if value[to] is None:
                return False
            needed = plus(stair_made(units, value[to]), counts_of(units, deed))
            if not nowhere_greater(needed, stair_made(units, value[source])):
                return False
    return True


def left_behind(units, world, stock, walk):
    """Return the place to which a walk from place 0 leads, and the rest of the stock behind its deeds."""
    need_world(units, world)
    left = stair_of(units, stock)
    if not isinstance(walk, tuple):
        raise BadSteps(0)
    if len(walk) > 60:
        raise TooGreat(60)
    place = 0
    for number, index in enumerate(walk):
        if not is_step_from(world, place, index):
            raise BadSteps(number)
        place = world[1][index][2]
    for index in walk:
        left = behind_deed(units, left, world[1][index][1])
        if left is None:
            raise NoRow()
    return (place, row_made(units, left))


def is_deed(units, value):
    """Return whether a value is a deed: an ask, a bring or a pass."""
    return begins_with(value, ("pass",), 1) or begins_with(value, ("ask", "bring"), 2) and is_row(units, value[1])


def is_step_from(world, place, value):
    """Return whether a value is the index of a step from a place."""
    return is_whole(value, 0, len(world[1]) - 1) and world[1][value][0] == place


def counts_of(units, deed):
    """Return the counts of a step with this deed at all units."""
    if deed[0] == "pass":
        return zeros(units)
    stair = stair_made(units, deed[1])
    return stair if deed[0] == "ask" else minus(zeros(units), stair)


def counts_at(units, world, unit):
    """Return the counts of all steps at a unit."""
    return [counts_of(units, deed)[unit] for _, deed, _ in world[1]]


def walks_to(world, start):
    """Return a walk of as few steps as possible from a place to each place to which one leads."""
    walks = {start: ()}
    fresh = [start]
    while fresh:
        found = []
        # Walked is a copy: behind the loop `fresh` names the list that is filled in it.
        for place in list(fresh):
            for index, (source, _, to) in enumerate(world[1]):
                if source == place and to not in walks:
                    walks[to] = walks[place] + (index,)
                    found.append(to)
        fresh = found
    return walks


def greatest_walks(world, counts, start, many):
    """Return what walks of 0 steps, of 1 step, and so on to `many`, lead to from a place, and how.

    For each place to which they lead, it is the greatest sum of their counts and a walk that has it.
    """
    rounds = [{start: (0, ())}]
    for _ in range(many):
        found = {}
        for index, (source, _, to) in enumerate(world[1]):
            if source in rounds[-1]:
                together, walk = rounds[-1][source]
                made = (together + counts[index], walk + (index,))
                found[to] = max(made, found.get(to, made))
        rounds.append(found)
    return rounds


def ring_at(world, counts, place):
    """Return a ring from a place whose counts are together above 0, of as few steps as possible; None for none."""
    # A ring that asks more has one in it that is at no place twice.
    for found in greatest_walks(world, counts, place, world[0])[1:]:
        if place in found and found[place][0] > 0:
            return found[place][1]
    return None


def need_rounds(units, world):
    """Return the stairs of what all places need for 0 steps, for 1 step, and so on.

    The last ones are the needs of those places that have one.
    """
    rounds = [[zeros(units) for _ in range(world[0])]]
    for _ in range((len(units) + 1) * (world[0] - 1)):
        stairs = [zeros(units) for _ in range(world[0])]
        for source, deed, to in world[1]:
            ahead = up_made(units, plus(rounds[-1][to], counts_of(units, deed)))
            stairs[source] = greater_of(stairs[source], ahead)
        rounds.append(stairs)
    return rounds


def _is_step(units, places, value):
    if not is_tuple_of(value, 3):
        return False
    source, deed, to = value
    return is_whole(source, 0, places - 1) and is_deed(units, deed) and is_whole(to, 0, places - 1)


def _is_on_ring(units, world, place):
    """Return whether a ring from a place asks more than it brings."""
    return any([ring_at(world, counts_at(units, world, unit), place) is not None for unit in range(len(units) + 1)])
