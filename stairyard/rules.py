"""Rules, which say what is taken and cut for a piece without looking ahead, and what is lost by them."""

from stairyard.errors import BadRule, NoRow, TooGreat
from stairyard.plain import alone, is_row, is_tuple_of, is_whole, minus, nowhere_greater, plus, stair_made
from stairyard.rows import need_row, need_rows
from stairyard.units import need_unit, need_units, sizes


def need_rule(units, value):
    """Return a rule: for each unit the units whose pieces are taken, in their order, and how they are cut."""
    need_units(units)
    if not is_tuple_of(value, len(units) + 1):
        raise BadRule(())
    for unit, pairs in enumerate(value):
        if not is_tuple_of(pairs, unit + 1):
            raise BadRule((unit,))
        there = []
        for index, pair in enumerate(pairs):
            if not _is_pair(unit, pair) or pair[0] in there:
                raise BadRule((unit, index))
            there.append(pair[0])
    return value


def best_rule(units):
    """Return the rule that takes the least piece that there is and cuts it no further than needed."""
    need_units(units)
    return tuple([_best_pairs(unit) for unit in range(len(units) + 1)])


def taken_by(units, rule, stock, unit):
    """Return the row that is left if a piece of a unit is taken by the rule."""
    need_rule(units, rule)
    need_row(units, stock)
    need_unit(units, unit)
    left = behind_piece(units, rule, stock, unit)
    if left is None:
        raise NoRow()
    return left


def ruled(units, rule, stock, asks):
    """Return how many asks the rule takes whole, in turn, and what is left behind these."""
    need_rule(units, rule)
    need_row(units, stock)
    need_rows(units, asks)
    if sum([sum(ask) for ask in asks]) > 1000:
        raise TooGreat(1000)
    return _taken_in_turn(units, rule, stock, asks)


def rule_flaw(units, rule):
    """Return a stock and two asks that it serves, but not by the rule; NoRow for the best rule."""
    need_rule(units, rule)
    for unit, pairs in enumerate(rule):
        for (taken, cut), (better, _) in zip(pairs, _best_pairs(unit)):
            # Here the rule goes another way for the first time: the lesser piece, which would do, is still there.
            if taken != better:
                return (plus(alone(units, taken, 1), alone(units, better, 1)), alone(units, unit, 1),
                        alone(units, taken, 1))
            if taken < unit and cut != taken + 1:
                return (alone(units, taken, 1), alone(units, unit, 1), alone(units, taken + 1, 1))
    raise NoRow()


def is_rule_flaw(units, rule, value):
    """Return whether a value is a stock and two asks that it serves side by side, but not by the rule in turn."""
    need_rule(units, rule)
    if not is_tuple_of(value, 3) or not all([is_row(units, row) for row in value]):
        return False
    stock, first, second = value
    if sum(first) + sum(second) > 1000:
        return False
    if not nowhere_greater(stair_made(units, plus(first, second)), stair_made(units, stock)):
        return False
    return _taken_in_turn(units, rule, stock, (first, second))[0] < 2


def behind_piece(units, rule, row, unit):
    """Return what is left of a row behind a piece of a unit that the rule takes, None if there is no such piece."""
    for taken, cut in rule[unit]:
        if row[taken] > 0:
            size = sizes(units)
            left = list(row)
            left[taken] = left[taken] - 1
            left[cut] = left[cut] + size[taken] // size[cut] - 1
            for below in range(cut + 1, unit + 1):
                left[below] = left[below] + units[below - 1] - 1
            return tuple(left)
    return None


def rule_ways(units, rule):
    """Return, for each unit, the ways in which the rule takes its pieces: (TAKEN, MANY, WHOLE, ONE) for each pair.

    WHOLE is what comes beside a row as a piece of the unit TAKEN is used up, where the rule prefers all that is cut
    out of it to a further one, and MANY how many pieces are taken by this; ONE is what the first of them changes.
    """
    found = []
    for unit, pairs in enumerate(rule):
        ways = []
        for taken, _ in pairs:
            piece = alone(units, taken, 1)
            one = minus(behind_piece(units, rule, piece, unit), piece)
            many, whole = _used_up(ways, 1, one)
            ways.append((taken, many, whole, one))
        found.append(ways)
    return found


def behind_order(ways, row, order):
    """Return what is left of a row behind an order that is taken piece by piece, None if a piece is lacking."""
    for unit, many in enumerate(order):
        while many > 0:
            there = [way for way in ways[unit] if row[way[0]] > 0]
            if not there:
                return None
            taken, at_once, whole, one = there[0]
            times = min(row[taken], many // at_once)
            row = plus(row, [times * number for number in whole]) if times else plus(row, one)
            many = many - (times * at_once if times else 1)
    return row


def _used_up(ways, many, left):
    """Return how many pieces are taken, and what changes, as the ways ahead use up what is left of an opened piece."""
    open_ways = [way for way in ways if left[way[0]] > 0]
    while open_ways:
        taken, more, whole, _ = open_ways[0]
        times = left[taken]
        many = many + times * more
        left = plus(left, [times * number for number in whole])
        open_ways = [way for way in ways if left[way[0]] > 0]
    return (many, left)


def _is_pair(unit, value):
    """Return whether a value tells a unit whose pieces may be taken for this one, and the unit to cut them into."""
    if not is_tuple_of(value, 2) or not is_whole(value[0], 0, unit):
        return False
    return is_whole(value[1], min(value[0] + 1, unit), unit)


def _best_pairs(unit):
    return ((unit, unit), *[(taken, taken + 1) for taken in reversed(range(unit))])


def _taken_in_turn(units, rule, stock, asks):
    ways = rule_ways(units, rule)
    left = stock
    for count, ask in enumerate(asks):
        behind = behind_order(ways, left, ask)
        if behind is None:
            return (count, left)
        left = behind
    return (len(asks), left)
