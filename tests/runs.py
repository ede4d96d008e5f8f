"""Worlds for the tests, and plain searches through their runs, walks and rings."""

import random

from tests.tools import add, left_over, lies_within, plain_stair, rows_to, total_of

PASS = ("pass",)


def some_world(chance, rows, places, many):
    steps = []
    for _ in range(many):
        word = chance.choice(("ask", "ask", "bring", "pass"))
        deed = PASS if word == "pass" else (word, chance.choice(rows))
        steps.append((chance.randrange(places), deed, chance.randrange(places)))
    return (places, tuple(steps))


def worlds_for(units, many, seed, most=3, places=3, steps=5):
    """Chosen worlds of up to so many places and steps; the first ones have few steps."""
    chance = random.Random(seed)
    rows = rows_to(units, most)
    rows = [*rows[1:4], rows[-1]]
    for number in range(many):
        yield some_world(chance, rows, 1 + number % places, 1 + number % steps)


def steps_from(world, place):
    return [(index, deed, to) for index, (source, deed, to) in enumerate(world[1]) if source == place]


def serves_first(units, world, place, stock, many, known):
    """Whether all asks among the first so many steps of all runs from a place can be served, trying all ways."""
    key = (place, stock, many)
    if key not in known:
        known[key] = many == 0 or all(
            any(serves_first(units, world, to, row, many - 1, known) for row in rows_behind(units, stock, deed))
            for _, deed, to in steps_from(world, place))
    return known[key]


def rows_behind(units, stock, deed):
    """All rows that may be there behind a deed."""
    if deed == PASS:
        return [stock]
    return [add(stock, deed[1])] if deed[0] == "bring" else left_over(units, stock, deed[1])


def lasting_rows(units, world, most):
    """The pairs of a place and a row, of a total of at most `most`, with which all asks can be served for ever.

    What is brought beyond this total is thrown away, so with more room there may be more of them.
    """
    rows = rows_to(units, most)
    lasting = {(place, row) for place in range(world[0]) for row in rows}

    def goes_on(row, deed, to):
        for behind in rows_behind(units, row, deed):
            if total_of(units, behind) <= most:
                if (to, behind) in lasting:
                    return True
            elif any((to, less) in lasting for less in rows if lies_within(units, less, behind)):
                return True
        return False
    while True:
        failing = {(place, row) for place, row in lasting
                   if not all(goes_on(row, deed, to) for _, deed, to in steps_from(world, place))}
        if not failing:
            return lasting
        lasting = lasting - failing


def walks_from(world, place, most):
    """The pairs of a walk of at most so many steps from a place and of the place to which it leads."""
    found = [((), place)]
    ahead = found
    for _ in range(most):
        ahead = [(walk + (index,), end) for walk, to in ahead for index, _, end in steps_from(world, to)]
        found = found + ahead
    return found


def places_from(world, place):
    return sorted({to for _, to in walks_from(world, place, world[0] - 1)})


def count_of(units, deed, unit):
    if deed == PASS:
        return 0
    return plain_stair(units, deed[1])[unit] * (1 if deed[0] == "ask" else -1)


def sum_of(units, world, walk, unit):
    return sum(count_of(units, world[1][index][1], unit) for index in walk)


def rings_from(world, place, most):
    return [walk for walk, to in walks_from(world, place, most) if walk and to == place]


def asking_ring(units, world, place, unit):
    """Whether a ring to which a walk leads from a place asks more than it brings at a unit."""
    return any(sum_of(units, world, ring, unit) > 0
               for to in places_from(world, place) for ring in rings_from(world, to, world[0]))


def has_need(units, world, place):
    return not any(asking_ring(units, world, place, unit) for unit in range(len(units) + 1))


def needs_by_walks(units, world):
    """The needs as the greatest sums over walks, None where some ring asks more."""
    stairs = []
    for place in range(world[0]):
        stairs.append([] if has_need(units, world, place) else None)
    for unit in range(len(units) + 1):
        told = []
        for place in range(world[0]):
            if stairs[place] is not None:
                told.append((place, max(
                    sum_of(units, world, walk, unit) + (units[unit - 1] * stairs[to][unit - 1] if unit else 0)
                    for walk, to in walks_from(world, place, world[0] - 1))))
        for place, number in told:
            stairs[place] = stairs[place] + [number]
    return tuple(None if stair is None else row_with(units, stair) for stair in stairs)


def row_with(units, stair):
    return tuple(stair[k] - (units[k - 1] * stair[k - 1] if k else 0) for k in range(len(stair)))


def all_left(units, world, stock, walk):
    """The place to which a walk leads from place 0, and all rows that can be left on it."""
    place, rows = 0, {stock}
    for index in walk:
        deed, place = world[1][index][1:]
        rows = {behind for row in rows for behind in rows_behind(units, row, deed)}
    return place, rows


def is_plain_failing(units, world, stock, value):
    """Whether a value of the right form is a failing walk for a stock."""
    unit, things = value
    place = 0
    counted = 0
    # The last thing, for the unit 0, comes last on the walk, but its sum counts first.
    sums = []
    for level, thing in zip(range(unit, -1, -1), things):
        sums.append(0)
        for steps, times in thing:
            start = place
            for index in steps:
                if not 0 <= index < len(world[1]) or world[1][index][0] != place:
                    return False
                place = world[1][index][2]
            if not steps or times < 1 or times > 1 and place != start:
                return False
            sums[-1] += times * sum_of(units, world, steps, level)
    for level in range(unit + 1):
        counted = sums[unit - level] + (units[level - 1] * counted if level else 0)
    return counted > plain_stair(units, stock)[unit]


def steps_in(value):
    """All steps of a failing walk, in their order."""
    walk = ()
    for thing in value[1]:
        for steps, times in thing:
            walk += steps * times
    return walk
