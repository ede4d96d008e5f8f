"""Joinings: things that come up ahead of an end are joined tick by tick, until one is left."""

from stairyard.errors import BadJoins, BadParameter, NoRow, TooGreat
from stairyard.plain import alone, begins_with, is_whole, is_wholes, need_fits, nowhere_greater, plus, stair_made
from stairyard.plain import suits, walk_parts
from stairyard.rows import need_row
from stairyard.units import need_units
from stairyard.words import grown, lengths_of, row_counted, words_placed


def need_joins(units, value):
    """Return a joining at 0."""
    things_of(units, value)
    return value


def joins_of(units, row):
    """Return a joining of the things of a row, put in from the left, those that come up last first."""
    need_row(units, row)
    if not any(row):
        raise NoRow()
    need_fits(units, row)
    if sum(row) > 60:
        raise TooGreat(60)
    return _joins_filled(units, lengths_of(row), list(range(sum(row))))


def is_joins(units, row, value):
    """Return whether a value is a joining of the things of a row and no others."""
    need_row(units, row)
    if sum(row) > 60 or not suits(need_joins, units, value):
        return False
    found = sorted([(number, len(word)) for word, number in things_of(units, value)])
    return found == list(enumerate(lengths_of(row)))


def fewest_left(units, row):
    """Return how many things there are at each K, at least, if all are joined as they can be."""
    need_row(units, row)
    upwards = [row[-1]]
    for ratio, many in zip(units[::-1], row[-2::-1]):
        upwards.append(many + (upwards[-1] + ratio - 1) // ratio)
    return tuple(upwards[::-1])


def latest_more(units, row):
    """Return the least K at which a further thing may come up."""
    need_row(units, row)
    need_fits(units, row)
    for unit in range(len(units) + 1):
        if _fits(units, plus(row, alone(units, unit, 1))):
            return unit
    raise NoRow()


def least_end(units, ready):
    """Return the least end by which things that are ready at these ticks can be joined to one."""
    _need_ready(units, ready)
    for later in range(len(units) + 1):
        if _fits(units, row_counted(units, _latest_units(units, ready, max(ready) + later))):
            return max(ready) + later
    raise NoRow()


def joins_by(units, ready, end):
    """Return a joining by an end, in which each thing comes up as early as it can."""
    _need_ready(units, ready)
    _need_end(end)
    if max(ready) > end:
        raise NoRow()
    things = sorted([(unit, number) for number, unit in enumerate(_latest_units(units, ready, end))])
    lengths = [unit for unit, _ in things]
    if not _fits(units, row_counted(units, lengths)):
        raise NoRow()
    return _joins_filled(units, lengths, [number for _, number in things])


def is_joins_by(units, ready, end, value):
    """Return whether a value is a joining by an end in which each thing comes up when it is ready."""
    _need_ready(units, ready)
    _need_end(end)
    if not suits(need_joins, units, value):
        return False
    found = sorted([(number, len(word)) for word, number in things_of(units, value)])
    if [number for number, _ in found] != list(range(len(ready))):
        return False
    return all([tick + unit <= end for tick, (_, unit) in zip(ready, found)])


def things_of(units, joins):
    """Return the pairs of the word that leads to a thing and of its number, from the left; check the joining."""
    need_units(units)
    met = walk_parts(joins, len(units) + 1, 400, lambda path, part: _subs(units, path, part))
    return [(path[1::2], part[1]) for path, part in met if part[0] == "thing"]


def joins_grown(units, words, numbers):
    """Return the joining with the things of these numbers at words that are apart, None for no words."""
    return grown(units, dict(zip(words, numbers)), ("thing", "join"), None)


def _subs(units, path, value):
    """Return the joinings directly within a joining and their indexes."""
    unit = len(path) // 2
    if begins_with(value, ("thing",), 2) and is_whole(value[1], 0, 59):
        return []
    if unit == len(units) or not begins_with(value, ("join",), 2) or not isinstance(value[1], tuple):
        raise BadJoins(path)
    if not 1 <= len(value[1]) <= units[unit]:
        raise BadJoins(path)
    return [((1, index), sub) for index, sub in enumerate(value[1])]


def _joins_filled(units, lengths, numbers):
    """Return the joining in which things of ascending units are put in from the left."""
    words, _ = words_placed(units, lengths)
    return joins_grown(units, words, numbers)


def _fits(units, row):
    """Return whether a row lies within one piece of the unit 0."""
    return nowhere_greater(stair_made(units, row), stair_made(units, alone(units, 0, 1)))


def _latest_units(units, ready, end):
    """Return for each thing the greatest K at which it can come up; `end` is behind all ready times."""
    return [min(len(units), end - tick) for tick in ready]


def _need_ready(units, ready):
    need_units(units)
    if not is_wholes(ready, 60, 0, 10 ** 60) or not ready:
        raise BadParameter(ready)


def _need_end(end):
    if not is_whole(end, 0, 10 ** 60 + 3):
        raise BadParameter(end)
