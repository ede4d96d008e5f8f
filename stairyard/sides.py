"""Eight sides of one row: what has the pieces of a row that one piece of the unit 0 serves, one turned into another."""

from stairyard.draws import draw_grown, leaves_of, need_draw
from stairyard.errors import BadParameter, TooGreat
from stairyard.joining import joins_grown, need_joins, things_of
from stairyard.plain import added_up, alone, is_tuple_of, need_fits, plus, suits, zeros
from stairyard.plans import lives, need_plan
from stairyard.rows import need_row
from stairyard.units import need_units
from stairyard.wheel import need_wheel, turn_of_word, words_of_turns
from stairyard.words import first_clash, first_words, need_words, words_row
from stairyard.worlds import need_world, outlives
from stairyard.yards import flat_yards, is_served, need_tree

SIDES = ("words", "texts", "wheel", "draw", "joins", "yard", "plan", "world")


def is_side(units, side, value):
    """Return whether a value is one of this side."""
    need_units(units)
    _need_side(side)
    return _row_had(units, side, value) is not None


def side_row(units, side, value):
    """Return the row that a value of a side has."""
    need_units(units)
    _need_side(side)
    return _need_row_had(units, side, value)


def side_of(units, row, side):
    """Return a value of a side that has a row."""
    need_row(units, row)
    _need_side(side)
    need_fits(units, row)
    if sum(row) > 60:
        raise TooGreat(60)
    if side == "yard":
        return _yard_of(units, row)
    asks = [("ask", alone(units, unit, many)) for unit, many in enumerate(row) if many > 0]
    if side == "plan":
        return _plan_of(asks)
    if side == "world":
        return _world_of([*asks, ("bring", alone(units, 0, 1))])
    return _grown_of(units, first_words(units, row), side)


def side_turned(units, side, value, into):
    """Return a value of one side turned into one of another side, which has the same row."""
    need_units(units)
    _need_side(side)
    row = _need_row_had(units, side, value)
    _need_side(into)
    if side in SIDES[:5] and into in SIDES[:5]:
        return _grown_of(units, _words_had(units, side, value), into)
    return side_of(units, row, into)


def _need_side(value):
    if not isinstance(value, str) or value not in SIDES:
        raise BadParameter(value)


def _need_row_had(units, side, value):
    row = _row_had(units, side, value)
    if row is None:
        raise BadParameter(value)
    return row


def _row_had(units, side, value):
    """Return the row that a value of a side has, None if it is none of this side."""
    if side == "yard":
        return _row_of_yard(units, value)
    if side == "plan":
        return _row_of_plan(units, value)
    if side == "world":
        return _row_of_world(units, value)
    words = _words_had(units, side, value)
    return None if words is None else words_row(units, words)


def _words_had(units, side, value):
    """Return the words of the things of a value of one of the first five sides, None if it is none of this side."""
    if side == "draw":
        return _in_order(leaves_of(units, value)) if suits(need_draw, units, value) else None
    if side == "joins":
        if is_tuple_of(value, 0):
            return ()
        return _in_order(things_of(units, value)) if suits(need_joins, units, value) else None
    words = value
    if side == "texts":
        words = _words_of_texts(value)
    if side == "wheel":
        words = words_of_turns(units, value) if suits(need_wheel, units, value) else None
    return words if suits(need_words, units, words) and first_clash(words) is None else None


def _words_of_texts(value):
    """Return the words of texts of digits, None if a value is no tuple of these."""
    if not isinstance(value, tuple) or not all([isinstance(text, str) for text in value]):
        return None
    if not all([sign in "0123456789" for text in value for sign in text]):
        return None
    return tuple([tuple([int(sign) for sign in text]) for text in value])


def _in_order(things):
    """Return words by the numbers of the things to which they lead, None if these are not all from 0 on, each once."""
    found = sorted([(number, word) for word, number in things if number is not None])
    if [number for number, _ in found] != list(range(len(found))):
        return None
    return tuple([word for _, word in found])


def _row_of_yard(units, value):
    if not suits(need_tree, units, value) or not is_served(units, value):
        return None
    yards = flat_yards(units, value)
    if added_up(units, [stock for _, stock, _ in yards]) != alone(units, 0, 1):
        return None
    return added_up(units, [asks for _, _, asks in yards])


def _row_of_plan(units, value):
    if not suits(need_plan, units, value) or not lives(units, value, alone(units, 0, 1)):
        return None
    row = zeros(units)
    while value[0] == "ask":
        row = plus(row, value[1])
        value = value[2]
    return row if value[0] == "end" else None


def _row_of_world(units, value):
    if not suits(need_world, units, value):
        return None
    places, steps = value
    one_piece = alone(units, 0, 1)
    on = {source: to for source, _, to in steps}
    gone = [0]
    while gone[-1] in on and on[gone[-1]] not in gone:
        gone.append(on[gone[-1]])
    # Steps as many as there are places, all gone over from 0 on, lead on from each place once.
    if len(steps) != places or len(gone) != places or on.get(gone[-1]) != 0:
        return None
    if [deed[1] for _, deed, _ in steps if deed[0] == "bring"] != [one_piece]:
        return None
    if not outlives(units, value, one_piece):
        return None
    return added_up(units, [deed[1] for _, deed, _ in steps if deed[0] == "ask"])


def _grown_of(units, words, side):
    """Return the value of one of the first five sides whose things have these words."""
    if side == "texts":
        return tuple(["".join([str(letter) for letter in word]) for word in words])
    if side == "wheel":
        return tuple([turn_of_word(units, word) for word in words])
    numbers = list(range(len(words)))
    if side == "draw":
        return draw_grown(units, words, numbers)
    if side == "joins":
        return joins_grown(units, words, numbers) if words else ()
    return words


def _yard_of(units, row):
    """Return a chain of yards, one for each unit, which asks for the row's pieces of it; the root has the stock."""
    under = ()
    for unit in reversed(range(len(units) + 1)):
        under = ((alone(units, 0, 0 if unit else 1), alone(units, unit, row[unit]), under),)
    return under[0]


def _plan_of(asks):
    plan = ("end",)
    for word, row in reversed(asks):
        plan = (word, row, plan)
    return plan


def _world_of(deeds):
    """Return the world with one step from each place to the next one, from the last one to 0, with these deeds."""
    places = len(deeds)
    steps = [(place, deed, (place + 1) % places) for place, deed in enumerate(deeds)]
    return (places, tuple(steps))
