"""Draws: dice are thrown in turn until an outcome comes, all ways being equally likely."""

from stairyard.errors import BadDraw, BadParameter, BadSteps, TooGreat
from stairyard.plain import added_up, begins_with, is_tuple_of, is_whole, is_wholes, lesser_of, need_fits, row_made
from stairyard.plain import stair_made, suits, walk_parts
from stairyard.rows import need_rows
from stairyard.units import need_units, sizes
from stairyard.words import grown, row_counted, words_placed


def need_draw(units, value):
    """Return a draw at the level 0."""
    leaves_of(units, value)
    return value


def draw_rows(units, draw):
    """Return the rows of the leaves of all outcomes, and the row of the leaves of nothing."""
    leaves = leaves_of(units, draw)
    greatest = max([outcome for _, outcome in leaves if outcome is not None], default=-1)
    rows = [_row_of(units, leaves, outcome) for outcome in range(greatest + 1)]
    return (tuple(rows), _row_of(units, leaves, None))


def draw_shares(units, draw):
    """Return the shares of all outcomes, and that of nothing."""
    rows, nothing = draw_rows(units, draw)
    return (tuple([stair_made(units, row)[-1] for row in rows]), stair_made(units, nothing)[-1])


def all_throws(units, draw):
    """Return how many throws all ways together make: the sizes of the units of all throws' levels, added."""
    return _throws_behind(units, stair_made(units, _all_leaves(units, draw)))


def drawn_by(units, draw, throws):
    """Return what comes if these sides are thrown, and how many throws are made."""
    need_draw(units, draw)
    if not is_tuple_of(throws, len(units)):
        raise BadSteps(())
    for level, side in enumerate(throws):
        if not is_whole(side, 0, units[level] - 1):
            raise BadSteps((level,))
    made = 0
    while draw[0] == "throw":
        draw = draw[1][throws[made]]
        made = made + 1
    return (draw[1], made)


def draw_of(units, rows):
    """Return a draw in which each outcome has the leaves of its row, put in from the left, the greatest first."""
    need_rows(units, rows)
    need_fits(units, added_up(units, rows))
    return _draw_filled(units, rows)


def least_draw(units, shares):
    """Return a draw with these shares and as few throws as possible."""
    _need_shares(units, shares)
    return _draw_filled(units, [_digits(units, share) for share in shares])


def redrawn(units, draw, shares):
    """Return a draw that goes on from another one, with these shares and as few throws as possible."""
    need_draw(units, draw)
    _need_shares(units, shares)
    row = row_made(units, _redrawn_stair(units, draw, shares))
    leaves = [[] for _ in row]
    for word, _ in leaves_of(units, draw):
        leaves[len(word)].append(word)
    # A piece of an outcome is told as a word behind the outcome: what is cut out of it stays the outcome's.
    pieces = [[] for _ in row]
    for outcome, digits in _all_digits(units, shares):
        for unit, many in enumerate(digits):
            pieces[unit].extend([(outcome,)] * many)
    outcomes = [piece[0] for piece in _cut_to(units, pieces, row)]
    return draw_grown(units, _cut_to(units, leaves, row), outcomes)


def least_throws(units, draw, shares):
    """Return how many throws all ways together make in a draw that `redrawn` returns."""
    need_draw(units, draw)
    _need_shares(units, shares)
    return _throws_behind(units, _redrawn_stair(units, draw, shares))


def is_redrawn(units, draw, shares, value):
    """Return whether a value is a draw that goes on from another one and has these shares."""
    need_draw(units, draw)
    _need_shares(units, shares)
    if not suits(need_draw, units, value) or not _goes_on(draw, value):
        return False
    told = draw_shares(units, value)[0]
    return told + (0,) * (len(shares) - len(told)) == shares


def leaves_of(units, draw):
    """Return the pairs of the word that leads to a leaf and of its outcome, from the left; check the draw."""
    need_units(units)
    met = walk_parts(draw, len(units) + 1, 400, lambda path, part: _subs(units, path, part))
    return [(path[1::2], part[1]) for path, part in met if part[0] == "leaf"]


def draw_grown(units, words, outcomes):
    """Return the draw with these outcomes at words that are apart; TooGreat if it has more than 400 parts."""
    return need_draw(units, grown(units, dict(zip(words, outcomes)), ("leaf", "throw"), ("leaf", None)))


def _subs(units, path, value):
    """Return the draws directly within a draw and their indexes."""
    level = len(path) // 2
    if begins_with(value, ("leaf",), 2) and (value[1] is None or is_whole(value[1], 0, 59)):
        return []
    if level == len(units) or not begins_with(value, ("throw",), 2) or not is_tuple_of(value[1], units[level]):
        raise BadDraw(path)
    return [((1, index), sub) for index, sub in enumerate(value[1])]


def _row_of(units, leaves, outcome):
    return row_counted(units, [len(word) for word, told in leaves if told == outcome])


def _all_leaves(units, draw):
    return row_counted(units, [len(word) for word, _ in leaves_of(units, draw)])


def _throws_behind(units, stair):
    """Return how many throws all ways together make in a draw whose leaves have this stair."""
    size = sizes(units)
    return sum([size[0] - stair[unit] * size[unit] for unit in range(len(units))])


def _need_shares(units, shares):
    need_units(units)
    if not is_wholes(shares, 60, 0, 10 ** 60):
        raise BadParameter(shares)
    whole = sizes(units)[0]
    if sum(shares) > whole:
        raise TooGreat(whole)


def _digits(units, share):
    """Return the row of fewest pieces with this total."""
    row = []
    for size in sizes(units):
        row.append(share // size)
        share = share % size
    return tuple(row)


def _all_digits(units, shares):
    """Return the pairs of an outcome and of the digits of its share, None behind all others for what is left."""
    nothing = sizes(units)[0] - sum(shares)
    found = [(outcome, _digits(units, share)) for outcome, share in enumerate(shares)]
    return [*found, (None, _digits(units, nothing))]


def _draw_filled(units, rows):
    """Return the draw in which the leaves of all rows, which fit, are put in from the left, unit by unit."""
    leaves = [(unit, outcome) for unit in range(len(units) + 1)
              for outcome, row in enumerate(rows) for _ in range(row[unit])]
    words, _ = words_placed(units, [unit for unit, _ in leaves])
    return draw_grown(units, words, [outcome for _, outcome in leaves])


def _redrawn_stair(units, draw, shares):
    """Return the stair of the leaves of a draw that goes on from another one with as few throws as possible."""
    digits = added_up(units, [row for _, row in _all_digits(units, shares)])
    return lesser_of(stair_made(units, _all_leaves(units, draw)), stair_made(units, digits))


def _cut_to(units, words, row):
    """Return the words that come of some, told by units, if they are cut until they have a row, unit by unit."""
    kept = []
    waiting = []
    for unit, many in enumerate(row):
        there = waiting + words[unit]
        kept.extend(there[:many])
        ratio = units[unit] if unit < len(units) else 0
        waiting = [(*word, letter) for word in there[many:] for letter in range(ratio)]
    return kept


def _goes_on(draw, value):
    """Return whether a draw has all throws of another one."""
    if draw[0] == "leaf":
        return True
    return value[0] == "throw" and all([_goes_on(sub, other) for sub, other in zip(draw[1], value[1])])
