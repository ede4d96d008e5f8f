"""UNITS, and the units that they number."""

from stairyard.errors import BadUnit, BadUnits
from stairyard.plain import is_unit, is_whole


def need_units(value):
    """Return UNITS, a tuple of 0 to 3 integers from 2 to 10."""
    if not isinstance(value, tuple) or len(value) > 3:
        raise BadUnits(value)
    if not all([is_whole(ratio, 2, 10) for ratio in value]):
        raise BadUnits(value)
    return value


def need_unit(units, value):
    """Return a unit, an integer from 0 to the least unit's number."""
    need_units(units)
    if not is_unit(units, value):
        raise BadUnit(value)
    return value


def sizes(units):
    """Return how many pieces of the least unit one piece of each unit makes."""
    need_units(units)
    upwards = [1]
    for ratio in reversed(units):
        upwards.append(ratio * upwards[-1])
    return tuple(upwards[::-1])
