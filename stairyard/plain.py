"""What the other files share: forms that values may have, and stairs worked out without any check.

Numbers within the work may be greater than those that callers may pass, so nothing here asks for bounds
unless its name says so.
"""

from stairyard.errors import NoRow, TooGreat, Unlike, YardError


def is_from(value, least):
    """Return whether a value is an integer, not True or False, from `least` on."""
    return isinstance(value, int) and not isinstance(value, bool) and value >= least


def is_whole(value, least, most):
    """Return whether a value is an integer, not True or False, from `least` to `most`."""
    return is_from(value, least) and value <= most


def is_tuple_of(value, many):
    """Return whether a value is a tuple of so many things."""
    return isinstance(value, tuple) and len(value) == many


def begins_with(value, words, many):
    """Return whether a value is a tuple of so many things, the first one of which is one of the words."""
    return is_tuple_of(value, many) and isinstance(value[0], str) and value[0] in words


def is_unit(units, value):
    """Return whether a value is a unit."""
    return is_whole(value, 0, len(units))


def is_cut_unit(units, value):
    """Return whether a value is a unit whose pieces can be cut."""
    return is_whole(value, 0, len(units) - 1)


def is_numbers(units, value, least, most):
    """Return whether a value is a tuple with an integer from `least` to `most` for each unit."""
    return is_tuple_of(value, len(units) + 1) and all([is_whole(number, least, most) for number in value])


def is_wholes(value, many, least, most):
    """Return whether a value is a tuple of at most so many integers from `least` to `most`."""
    return isinstance(value, tuple) and len(value) <= many and all([is_whole(part, least, most) for part in value])


def is_row(units, value):
    """Return whether a value is a row."""
    return is_numbers(units, value, 0, 10 ** 60)


def is_great_row(units, value):
    """Return whether a value is a row, but that its numbers may be however great."""
    return is_tuple_of(value, len(units) + 1) and all([is_from(number, 0) for number in value])


def zeros(units):
    """Return the row, which is a stair too, of no pieces."""
    return (0,) * (len(units) + 1)


def alone(units, unit, many):
    """Return the row with so many pieces of one unit and nothing else."""
    return tuple([many if other == unit else 0 for other in range(len(units) + 1)])


def plus(one, other):
    """Return two tuples added place by place."""
    return tuple([first + second for first, second in zip(one, other)])


def added_up(units, rows):
    """Return all of some rows added place by place, zeros for none."""
    added = zeros(units)
    for row in rows:
        added = plus(added, row)
    return added


def minus(one, other):
    """Return one tuple less another one, place by place."""
    return tuple([first - second for first, second in zip(one, other)])


def greater_of(one, other):
    """Return the greater items of two tuples, place by place."""
    return tuple([max(first, second) for first, second in zip(one, other)])


def lesser_of(one, other):
    """Return the lesser items of two tuples, place by place."""
    return tuple([min(first, second) for first, second in zip(one, other)])


def first_greater(one, other):
    """Return the least index at which a tuple is greater than another one, None if there is none."""
    for index, (first, second) in enumerate(zip(one, other)):
        if first > second:
            return index
    return None


def nowhere_greater(one, other):
    """Return whether a tuple is at no place greater than another one."""
    return first_greater(one, other) is None


def need_served(order_stair, stock_stair):
    """Raise Unlike with the least unit at which a stock's stair is too low for an order's."""
    unit = first_greater(order_stair, stock_stair)
    if unit is not None:
        raise Unlike(unit)


def need_fits(units, row):
    """Raise Unlike with the least unit at which the stair of one piece of the unit 0 is too low for a row's."""
    need_served(stair_made(units, row), stair_made(units, alone(units, 0, 1)))


def stair_made(units, row):
    """Return the stair of a row."""
    stair = [row[0]]
    for ratio, many in zip(units, row[1:]):
        stair.append(ratio * stair[-1] + many)
    return tuple(stair)


def row_made(units, stair):
    """Return the row that has a stair."""
    made = [ratio * number for ratio, number in zip(units, stair)]
    return minus(stair, (0, *made))


def up_made(units, numbers):
    """Return UP of numbers: the least stair that is nowhere less."""
    stair = [max(0, numbers[0])]
    for ratio, number in zip(units, numbers[1:]):
        stair.append(max(number, ratio * stair[-1]))
    return tuple(stair)


def down_made(units, numbers):
    """Return DOWN of numbers of which none is below 0: the greatest stair that is nowhere greater."""
    upwards = numbers[::-1]
    stair = [upwards[0]]
    for ratio, number in zip(units[::-1], upwards[1:]):
        stair.append(min(number, stair[-1] // ratio))
    return tuple(stair[::-1])


def cut_made(units, row, unit, many):
    """Return what comes of a row by so many cuts at a unit, or by joins if `many` is below 0.

    An item of it is below 0 exactly if pieces are lacking.
    """
    changed = list(row)
    changed[unit] = row[unit] - many
    changed[unit + 1] = row[unit + 1] + units[unit] * many
    return tuple(changed)


def behind_deed(units, left, deed):
    """Return the stair of the rest of what was left, a stair, behind an ask, a bring or a pass.

    None stands for an ask that is not served.
    """
    if deed[0] == "pass":
        return left
    stair = stair_made(units, deed[1])
    if deed[0] == "bring":
        return plus(left, stair)
    over = minus(left, stair)
    return down_made(units, over) if min(over) >= 0 else None


def any_within(stairs, stair):
    """Return whether one of some stairs lies within a stair."""
    return any([nowhere_greater(least, stair) for least in stairs])


def least_kept(stairs):
    """Return the ascending list of the least ones of some stairs; TooGreat for more than 40."""
    kept = []
    # A stair within another one stands ahead of it in this order, so what is kept once stays.
    for stair in sorted(stairs):
        if not any_within(kept, stair):
            kept.append(stair)
            if len(kept) > 40:
                raise TooGreat(40)
    return kept


def least_apart(of_first, of_second):
    """Return the least one of both lists of least stairs that is enough for just one of them; NoRow for none."""
    apart = [stair for stair in of_first if not any_within(of_second, stair)]
    apart.extend([stair for stair in of_second if not any_within(of_first, stair)])
    if not apart:
        raise NoRow()
    return min(apart)


def rows_made(units, stairs):
    """Return the tuple of the rows that have these stairs; both ascend alike."""
    return tuple([row_made(units, stair) for stair in stairs])


def walk_parts(value, deep, many, parts_of):
    """Walk through a value; return the pairs of a path and of what is met there, a whole ahead of its parts.

    parts_of(path, part) returns the pairs of the indexes that lead to a part's own parts and of these parts,
    or raises the error of its kind if the part has no form of this kind.
    """
    met = []
    waiting = [((), value, 1)]
    while waiting:
        path, part, depth = waiting.pop()
        if depth > deep:
            raise TooGreat(deep)
        if len(met) == many:
            raise TooGreat(many)
        inside = parts_of(path, part)
        met.append((path, part))
        # The last one in is the first one out: so the first part comes next.
        waiting.extend([(path + indexes, inner, depth + 1) for indexes, inner in reversed(inside)])
    return met


def suits(need, units, value):
    """Return whether need(units, value) takes a value, UNITS being right, for one of its kind."""
    try:
        need(units, value)
    except YardError:
        return False
    return True
