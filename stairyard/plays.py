"""Plans gone through: choices, strategies of the keeper of the stock, and plays of the world against it."""

from stairyard.errors import BadSteps, NoRow
from stairyard.plain import begins_with, behind_deed, first_greater, is_row, is_tuple_of, is_unit, is_whole
from stairyard.plain import row_made, stair_made
from stairyard.plans import lives_on, need_plan
from stairyard.rows import need_row, stair_of


def played(units, plan, stock, choices):
    """Return the path of the end, or of the first ask that is not served, and what is left ahead of it."""
    need_plan(units, plan)
    left = stair_of(units, stock)
    if not isinstance(choices, tuple):
        raise BadSteps(0)
    path = ()
    many = 0
    while plan[0] != "end":
        index = 2
        if plan[0] in ("either", "ours"):
            if many == len(choices) or not is_whole(choices[many], 1, 2):
                raise BadSteps(many)
            index = choices[many]
            many = many + 1
        else:
            behind = behind_deed(units, left, plan[:2])
            if behind is None:
                break
            left = behind
        path = path + (index,)
        plan = plan[index]
    if many < len(choices):
        raise BadSteps(many)
    return (path, row_made(units, left))


def strategy(units, plan, stock):
    """Return the plan with each ours replaced by its first plan, if what is left lives with it, or else its second."""
    need_plan(units, plan)
    left = stair_of(units, stock)
    if not lives_on(units, plan, left):
        raise NoRow()
    return _chosen(units, plan, left)


def is_strategy(units, plan, stock, value):
    """Return whether a value is a strategy of the plan with which the stock lives."""
    need_plan(units, plan)
    need_row(units, stock)
    if not comes_from(plan, value, lambda deed, told: is_row(units, told[1]) and told == deed):
        return False
    return lives_on(units, value, stair_made(units, stock))


def play_against(units, plan, stock):
    """Return a play of the world that shows that the stock does not live with the plan."""
    need_plan(units, plan)
    left = stair_of(units, stock)
    if lives_on(units, plan, left):
        raise NoRow()
    return _play(units, plan, [(number, ()) for number in left])


def is_play_against(units, plan, stock, value):
    """Return whether a value is a play of the plan against the stock."""
    need_plan(units, plan)
    return _is_against(units, plan, stair_of(units, stock), (), value)


def comes_from(plan, value, is_like):
    """Return whether a value is what comes of a plan, or a yard plan, with each ours replaced by one of its plans.

    is_like(deed, told) judges a deed of the value by that of the plan: all that stands ahead of the next plan.
    """
    word = plan[0]
    if word == "ours":
        return comes_from(plan[1], value, is_like) or comes_from(plan[2], value, is_like)
    if not begins_with(value, (word,), len(plan)):
        return False
    if word == "end":
        return True
    if word == "either":
        return comes_from(plan[1], value[1], is_like) and comes_from(plan[2], value[2], is_like)
    return is_like(plan[:-1], value[:-1]) and comes_from(plan[-1], value[-1], is_like)


def _chosen(units, plan, left):
    """Return the strategy for what is left, which lives with the plan."""
    word = plan[0]
    if word == "end":
        return plan
    if word == "either":
        return (word, _chosen(units, plan[1], left), _chosen(units, plan[2], left))
    if word == "ours":
        return _chosen(units, plan[1] if lives_on(units, plan[1], left) else plan[2], left)
    return (word, plan[1], _chosen(units, plan[2], behind_deed(units, left, plan[:2])))


def _play(units, plan, left):
    """Return a play against what is left, which does not live with the plan.

    For each unit, `left` has the item of the stair and the units at which asks and bringings, so far, count so much.
    """
    word = plan[0]
    if word == "ours":
        return ("both", _play(units, plan[1], left), _play(units, plan[2], left))
    stair = tuple([number for number, _ in left])
    if word == "either":
        if lives_on(units, plan[1], stair):
            return ("second", _play(units, plan[2], left))
        return ("first", _play(units, plan[1], left))
    if word == "ask":
        unit = first_greater(stair_made(units, plan[1]), stair)
        if unit is not None:
            return ("over", left[unit][1] + (unit,))
    return ("on", _play(units, plan[2], _told_behind(units, plan[:2], left)))


def _told_behind(units, deed, left):
    """Return what `left` is behind a deed: as DOWN tells it, with the units at which it is counted."""
    told = []
    for unit, (number, counted) in enumerate(left):
        told.append((_counted(units, deed, number, unit), counted + (unit,)))
    upwards = [told[-1]]
    for unit in reversed(range(len(units))):
        number, counted = upwards[-1]
        upwards.append(min(told[unit], (number // units[unit], counted)))
    return upwards[::-1]


def _counted(units, deed, number, unit):
    """Return the number behind a deed that is counted at a unit."""
    item = stair_made(units, deed[1])[unit]
    return number - item if deed[0] == "ask" else number + item


def _is_against(units, plan, stair, deeds, value):
    """Return whether a value is a play against the stock with this stair, behind deeds on the way to the plan."""
    word = plan[0]
    if word == "either" and begins_with(value, ("first", "second"), 2):
        return _is_against(units, plan[1 if value[0] == "first" else 2], stair, deeds, value[1])
    if word == "ours" and begins_with(value, ("both",), 3):
        first = _is_against(units, plan[1], stair, deeds, value[1])
        return first and _is_against(units, plan[2], stair, deeds, value[2])
    if word not in ("ask", "bring"):
        return False
    deeds = deeds + (plan[:2],)
    if word == "ask" and begins_with(value, ("over",), 2):
        return _is_over(units, stair, deeds, value[1])
    return begins_with(value, ("on",), 2) and _is_against(units, plan[2], stair, deeds, value[1])


def _is_over(units, stair, deeds, value):
    """Return whether a value tells units at which the last deed asks more than the number ahead of it."""
    if not is_tuple_of(value, len(deeds)) or not all([is_unit(units, unit) for unit in value]):
        return False
    if any([ahead < unit for ahead, unit in zip(value, value[1:])]):
        return False
    present = value[0]
    number = stair[present]
    for unit, deed in zip(value, deeds):
        for ratio in units[unit:present]:
            number = number // ratio
        number = _counted(units, deed, number, unit)
        present = unit
    return number < 0
