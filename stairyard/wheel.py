"""The wheel: turns, which stand for pieces of one piece of the unit 0 as words do, and what is due at a tick.

The turns of one more unit that a turn holds begin one period of it apart: so a turn has a word, whose letters tell,
unit by unit, which of them it is. Turns meet exactly if their words are not apart.
"""

from stairyard.errors import BadParameter, BadWheel, NoRow, TooGreat, Unlike
from stairyard.plain import is_tuple_of, is_unit, is_whole, need_fits
from stairyard.rows import need_row
from stairyard.units import need_units
from stairyard.words import row_counted, words_added, words_left


def need_wheel(units, value):
    """Return a wheel, a tuple of at most 60 turns."""
    need_units(units)
    if not isinstance(value, tuple):
        raise BadWheel(())
    if len(value) > 60:
        raise TooGreat(60)
    for index, turn in enumerate(value):
        if not _is_turn(units, turn):
            raise BadWheel((index,))
    return value


def wheel_row(units, wheel):
    """Return the row with, for each unit, how many of the turns are of it."""
    need_wheel(units, wheel)
    return row_counted(units, [unit for unit, _ in wheel])


def first_meeting(units, wheel):
    """Return the least tick at which two turns are due, and the numbers of the first two of them."""
    need_wheel(units, wheel)
    meeting = _meeting(units, wheel)
    if meeting is None:
        raise NoRow()
    return meeting


def wheel_of(units, row):
    """Return turns that are apart, with this row, each as early as those ahead of it let."""
    need_row(units, row)
    need_fits(units, row)
    return _turns_added(units, (), row)


def free_turns(units, wheel):
    """Return all turns that meet none of the wheel, though the turn of one unit less that holds them meets one."""
    _need_apart(units, wheel)
    free = words_left(units, words_of_turns(units, wheel))
    if len(free) > 60:
        raise TooGreat(60)
    return tuple(sorted([turn_of_word(units, word) for word in free]))


def wheel_behind(units, wheel, row):
    """Return further turns with this row, each as early as the wheel and those ahead of it let."""
    need_wheel(units, wheel)
    need_row(units, row)
    _need_apart(units, wheel)
    return _turns_added(units, words_of_turns(units, wheel), row)


def is_wheel(units, row, value):
    """Return whether a value is a wheel of turns that are apart, with this row."""
    need_row(units, row)
    if not isinstance(value, tuple) or len(value) > 60 or not all([_is_turn(units, turn) for turn in value]):
        return False
    return wheel_row(units, value) == row and _meeting(units, value) is None


def due_at(units, wheel, tick):
    """Return the numbers of the turns that are due at a tick."""
    need_wheel(units, wheel)
    _need_tick(tick)
    return tuple(_dues(units, wheel, tick))


def next_free(units, wheel, tick):
    """Return the least tick from this one on at which none of the turns is due."""
    need_wheel(units, wheel)
    _need_tick(tick)
    # All comes again after the period of the least unit.
    for later in range(tick, tick + periods(units)[-1]):
        if not _dues(units, wheel, later):
            return later
    raise NoRow()


def dues_between(units, wheel, begin, end):
    """Return for each turn at how many ticks it is due from one tick on and ahead of another one."""
    _need_span(units, wheel, begin, end)
    period = periods(units)
    return tuple([_ticks_between(period[unit], start, begin, end) for unit, start in wheel])


def free_between(units, wheel, begin, end):
    """Return at how many ticks from one tick on and ahead of another one no turn is due."""
    _need_span(units, wheel, begin, end)
    whole = periods(units)[-1]
    free = [tick for tick in range(whole) if not _dues(units, wheel, tick)]
    return sum([_ticks_between(whole, tick, begin, end) for tick in free])


def periods(units):
    """Return the periods of all units: how many ticks there are from one at which a turn is due to the next one."""
    found = [1]
    for ratio in units:
        found.append(found[-1] * ratio)
    return found


def turn_of_word(units, word):
    """Return the turn that has this word."""
    start = sum([letter * period for letter, period in zip(word, periods(units))])
    return (len(word), start)


def words_of_turns(units, wheel):
    """Return the words of turns."""
    period = periods(units)
    return tuple([tuple([start // period[place] % units[place] for place in range(unit)]) for unit, start in wheel])


def _is_turn(units, value):
    if not is_tuple_of(value, 2) or not is_unit(units, value[0]):
        return False
    return is_whole(value[1], 0, periods(units)[value[0]] - 1)


def _meeting(units, wheel):
    """Return the least tick at which two turns are due, and the first two of them; None if the turns are apart."""
    # Two turns that meet do so for the first time when the one with the longer period begins.
    for tick in sorted([start for _, start in wheel]):
        due = _dues(units, wheel, tick)
        if len(due) > 1:
            return (tick, due[0], due[1])
    return None


def _dues(units, wheel, tick):
    period = periods(units)
    return [number for number, (unit, start) in enumerate(wheel) if tick % period[unit] == start]


def _turns_added(units, words, row):
    """Return the turns with a row that begin as early as they can behind those of some words that are apart."""
    added = words_added(units, words, row, lambda word: turn_of_word(units, word)[1])
    return tuple([turn_of_word(units, word) for word in added])


def _ticks_between(period, start, begin, end):
    """Return how many ticks from `begin` on and ahead of `end` are behind `start` by a multiple of the period."""
    if end <= begin:
        return 0
    return (end - 1 - start) // period - (begin - 1 - start) // period


def _need_apart(units, wheel):
    need_wheel(units, wheel)
    meeting = _meeting(units, wheel)
    if meeting is not None:
        raise Unlike(meeting[0])


def _need_tick(value):
    if not is_whole(value, 0, 10 ** 60):
        raise BadParameter(value)


def _need_span(units, wheel, begin, end):
    need_wheel(units, wheel)
    _need_tick(begin)
    _need_tick(end)
