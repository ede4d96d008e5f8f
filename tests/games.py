"""Plans for the tests, and plain searches through all ways in which they may be played."""

import itertools
import random

from tests.tools import add, left_over, lies_within, plain_stair, size_of
from tests.wrongs import END

MOST = 10 ** 60


def lives_by_play(units, plan, stock, known):
    """Whether a stock lives with a plan, trying each way to serve each ask."""
    key = (plan, stock)
    if key not in known:
        known[key] = lives_anew(units, plan, stock, known)
    return known[key]


def lives_anew(units, plan, stock, known):
    word = plan[0]
    if word == "end":
        return True
    if word == "ask":
        return any(lives_by_play(units, plan[2], row, known) for row in left_over(units, stock, plan[1]))
    if word == "bring":
        return lives_by_play(units, plan[2], add(stock, plan[1]), known)
    both = [lives_by_play(units, part, stock, known) for part in plan[1:]]
    return all(both) if word == "either" else any(both)


def best_left(units, stock, order):
    """The row within which each row lies that can be left behind an order; None if it is not served."""
    rows = left_over(units, stock, order)
    best = [row for row in rows if all(lies_within(units, other, row) for other in rows)]
    return best[0] if best else None


def some_plan(chance, rows, deep):
    word = chance.choice(("ask", "ask", "bring", "either", "ours", "end")) if deep > 1 else "end"
    if word == "end":
        return END
    if word in ("ask", "bring"):
        return (word, chance.choice(rows), some_plan(chance, rows, deep - 1))
    return (word, some_plan(chance, rows, deep - 1), some_plan(chance, rows, deep - 1))


def plans_of(rows, many, seed=1, deep=4):
    """Plans of one or two deeds, and chosen deeper ones."""
    yield END
    for word in ("ask", "bring"):
        for one in rows:
            yield (word, one, END)
            for other in rows[1:]:
                yield (word, one, ("ask", other, END))
                yield ("either", (word, one, END), ("ask", other, END))
                yield ("ours", (word, one, ("ask", other, END)), ("ask", other, END))
    chance = random.Random(seed)
    for _ in range(many):
        yield some_plan(chance, rows, deep)


def strategies_of(plan):
    """All plans that come of a plan if each ours is replaced by one of its plans."""
    word = plan[0]
    if word == "end":
        return [plan]
    if word == "ours":
        return strategies_of(plan[1]) + strategies_of(plan[2])
    if word == "either":
        return [(word, one, other) for one in strategies_of(plan[1]) for other in strategies_of(plan[2])]
    return [(word, plan[1], other) for other in strategies_of(plan[2])]


def falling_units(units, many):
    """All tuples of so many units, none of them greater than the one ahead of it."""
    for told in itertools.combinations_with_replacement(range(len(units), -1, -1), many):
        yield told


def plays_of(units, plan, deeds=()):
    """All plays of a plan, with the deeds on the way to it."""
    word = plan[0]
    if word == "either":
        for name, part in (("first", plan[1]), ("second", plan[2])):
            for play in plays_of(units, part, deeds):
                yield (name, play)
    if word == "ours":
        for one in plays_of(units, plan[1], deeds):
            for other in plays_of(units, plan[2], deeds):
                yield ("both", one, other)
    if word == "ask":
        for told in falling_units(units, len(deeds) + 1):
            yield ("over", told)
    if word in ("ask", "bring"):
        for play in plays_of(units, plan[2], deeds + (plan[:2],)):
            yield ("on", play)


def is_plain_against(units, plan, stock, play, deeds=()):
    """Whether a play of the plan is against the stock."""
    if play[0] in ("first", "second"):
        return is_plain_against(units, plan[1 if play[0] == "first" else 2], stock, play[1], deeds)
    if play[0] == "both":
        return all(is_plain_against(units, plan[at], stock, play[at], deeds) for at in (1, 2))
    deeds = deeds + (plan[:2],)
    if play[0] == "on":
        return is_plain_against(units, plan[2], stock, play[1], deeds)
    return counted_over(units, stock, deeds, play[1])


def counted_over(units, stock, deeds, told):
    """Whether the last ask is greater than the number that is counted ahead of it."""
    number = None
    for at, (unit, (word, row)) in enumerate(zip(told, deeds)):
        if number is None:
            number = plain_stair(units, stock)[unit]
        else:
            number //= size_of(units, unit) // size_of(units, told[at - 1])
        item = plain_stair(units, row)[unit]
        if at == len(deeds) - 1:
            return item > number
        number += item if word == "bring" else -item
    return False


def ask_line(rows, word="ask", last=END):
    """A plan of one deed for each row, one behind the other."""
    for row in reversed(rows):
        last = (word, row, last)
    return last


def balanced(word, plans):
    """The same, or with either in the place of ours, as few deep as possible."""
    if len(plans) == 1:
        return plans[0]
    half = len(plans) // 2
    return (word, balanced(word, plans[:half]), balanced(word, plans[half:]))


def row_with(units, stair):
    """The row that has a stair."""
    return tuple(stair[k] - (units[k - 1] * stair[k - 1] if k else 0) for k in range(len(stair)))


# Of these units plans with many least rows are made.
LINE_UNITS = (2, 2, 2)


def many_rows(first, second):
    """A plan with first * second least rows: the world chooses one of two plans, each with many ours.

    The first one's rows differ at the units 0 and 1, the second one's at the units 2 and 3.
    """
    high = [(a, 100 - 3 * a, 2 * (100 - 3 * a), 4 * (100 - 3 * a)) for a in range(first)]
    low = [(0, 0, 1000 + a, 10000 - 3 * a) for a in range(second)]
    both = [[("ask", row_with(LINE_UNITS, stair), END) for stair in stairs] for stairs in (high, low)]
    return ("either", balanced("ours", both[0]), balanced("ours", both[1]))


def forty():
    """A plan with 40 least rows."""
    return many_rows(5, 8)


def forty_one():
    """A plan with one more."""
    return ("ours", many_rows(5, 8), ("ask", row_with(LINE_UNITS, (50, 100, 200, 400)), END))


def put_last(plan, last):
    """The plan with another one in the place of each end."""
    if plan[0] == "end":
        return last
    if plan[0] in ("ask", "bring"):
        return (plan[0], plan[1], put_last(plan[2], last))
    return (plan[0], put_last(plan[1], last), put_last(plan[2], last))


def size_and_depth(plan):
    """How many parts a plan has, each counted where it stands, and how deep it is."""
    inner = [size_and_depth(part) for part in plan[1:] if isinstance(part, tuple) and isinstance(part[0], str)]
    return 1 + sum(many for many, _ in inner), 1 + max([deep for _, deep in inner], default=0)
