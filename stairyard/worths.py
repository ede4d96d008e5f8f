"""Items that may be asked and what they are worth: the greatest worth that a stock serves."""

from stairyard.errors import BadParameter, TooGreat
from stairyard.plain import alone, is_tuple_of, is_unit, is_whole, is_wholes, nowhere_greater, plus, stair_made
from stairyard.rows import need_row
from stairyard.words import row_counted


def best_worth(units, stock, items):
    """Return the greatest sum of the worths of items that a stock serves side by side."""
    _need_items(units, stock, items)
    return _worth_of(items, _best_numbers(units, stock, items))


def best_choice(units, stock, items):
    """Return the numbers of items with the greatest sum of worths that a stock serves side by side."""
    _need_items(units, stock, items)
    return tuple(_best_numbers(units, stock, items))


def is_best_choice(units, stock, items, value):
    """Return whether a value is a choice with the greatest sum of worths."""
    _need_items(units, stock, items)
    if not is_wholes(value, len(items), 0, len(items) - 1):
        return False
    if not all([number < later for number, later in zip(value, value[1:])]):
        return False
    row = row_counted(units, [items[number][0] for number in value])
    if not nowhere_greater(stair_made(units, row), stair_made(units, stock)):
        return False
    return _worth_of(items, value) == _worth_of(items, _best_numbers(units, stock, items))


def more_worth(units, stock, items):
    """Return for each unit how much greater the best worth is with one more piece of it in the stock."""
    _need_items(units, stock, items)
    best = _worth_of(items, _best_numbers(units, stock, items))
    more = [plus(stock, alone(units, unit, 1)) for unit in range(len(units) + 1)]
    return tuple([_worth_of(items, _best_numbers(units, row, items)) - best for row in more])


def _need_items(units, stock, items):
    need_row(units, stock)
    if not isinstance(items, tuple):
        raise BadParameter(items)
    if len(items) > 60:
        raise TooGreat(60)
    if not all([_is_item(units, item) for item in items]):
        raise BadParameter(items)


def _is_item(units, value):
    return is_tuple_of(value, 2) and is_unit(units, value[0]) and is_whole(value[1], 0, 10 ** 60)


def _worth_of(items, numbers):
    return sum([items[number][1] for number in numbers])


def _best_numbers(units, stock, items):
    """Return the ascending numbers of a best choice, found from the least unit on.

    Of each unit the dearest things are chosen; the others, so many as a greater piece makes put together, are
    things of the next greater unit.
    """
    chosen = []
    packets = []
    for unit in reversed(range(len(stock))):
        single = [(worth, [number]) for number, (of, worth) in enumerate(items) if of == unit]
        things = sorted(packets + single, reverse=True)
        many = min(stock[unit], len(things))
        chosen.extend([number for _, numbers in things[:many] for number in numbers])
        packets = _packets(things[many:], units[unit - 1]) if unit > 0 else []
    return sorted(chosen)


def _packets(things, ratio):
    """Return things put together so many at a time, the dearest ones first."""
    found = []
    for start in range(0, len(things), ratio):
        together = things[start:start + ratio]
        found.append((sum([worth for worth, _ in together]), [number for _, numbers in together for number in numbers]))
    return found
