"""Trees, plans and worlds to be spoilt in the tests, and wrong values for their parameters.

Importing this file puts its kinds of wrong parameters among those that `wrong_each` knows.
"""

from stairyard import errors
from tests.tools import STRAY, WRONG, Alike, no_integer_to, swapped, wrong_row

END = ("end",)


def zero_row(units):
    return (0,) * (len(units) + 1)


def sample_tree(units):
    """A served tree with two yards under its root."""
    row = zero_row(units)
    return (row, row, ((row, row, ()), (row, row, ())))


def sample_plan():
    """A plan in which one or two choices are met."""
    return ("ours", ("either", END, END), END)


def sample_world(units):
    """A world with two places and two steps, of which each is a ring together with the other one."""
    row = zero_row(units)
    return (2, ((0, ("ask", row), 1), (1, ("pass",), 0)))


# Two yards stand directly under the root in what is told about wrong yard plans.
YARDS = (0, 0)


def wrong_rule(units):
    good = tuple(tuple((j, min(j + 1, k)) for j in range(k + 1)) for k in range(len(units) + 1))
    for value in (*STRAY, (), list(good), good[:-1], good + (good[-1],), Alike()):
        yield value, errors.BadRule, {"place": ()}
    for k, pairs in enumerate(good):
        for value in (*STRAY, (), list(pairs), pairs[:-1], pairs + (pairs[-1],), Alike()):
            if value != pairs or isinstance(value, Alike):
                yield swapped(good, k, value), errors.BadRule, {"place": (k,)}
                yield good[:k] + (value,) + (None,) * (len(units) - k), errors.BadRule, {"place": (k,)}
        for at in range(k + 1):
            for pair in wrong_pairs(k, pairs, at):
                yield swapped(good, k, swapped(pairs, at, pair)), errors.BadRule, {"place": (k, at)}
                late = pairs[:at] + (pair,) + (None,) * (k - at)
                yield good[:k] + (late,) + (None,) * (len(units) - k), errors.BadRule, {"place": (k, at)}


def wrong_pairs(k, pairs, at):
    j, m = pairs[at]
    pairs_told = [*STRAY, (), (j,), (j, m, m), [j, m], Alike(), (Alike(), m), (j, Alike()), (k + 1, k + 1), (-1, 0)]
    pairs_told += [(None, m), (j, None), (str(j), m), (j, str(m)), ((j,), m), (j, k + 1), (j, -1), (j, 10 ** 70)]
    pairs_told += [(j, less) for less in range(j + 1) if less != m]
    pairs_told += [(bool(j), m)] * (j < 2) + [(j, bool(m))] * (m < 2)
    return pairs_told + list(pairs[:at])


def tree_line(units, deep, inner):
    """A tree so many yards deep, with something in the place of the last one."""
    row = zero_row(units)
    for _ in range(deep - 1):
        inner = (row, row, (inner,))
    return inner


def wrong_tree(units):
    row = zero_row(units)
    leaf = (row, row, ())
    forms = [*STRAY, (), (row,), (row, row), (row, row, (), ()), [row, row, ()], (row, row, []), (row, row, None)]
    forms += [(row, row, {}), Alike(), (Alike(), row, ()), (row, Alike(), ()), (row, row, Alike()), ((), row, row)]
    forms += [(wrong, row, ()) for wrong, _, _ in wrong_row(units)]
    forms += [(row, wrong, ()) for wrong, _, _ in wrong_row(units)]
    for value in forms:
        yield value, errors.BadTree, {"path": ()}
    for value in forms[::3]:
        yield (row, row, (leaf, value, None)), errors.BadTree, {"path": (2, 1)}
        yield (row, row, ((row, row, (leaf, leaf, value)), None)), errors.BadTree, {"path": (2, 0, 2, 2)}
        yield tree_line(units, 8, value), errors.BadTree, {"path": (2, 0) * 7}
        yield tree_line(units, 9, value), errors.TooGreat, {"most": 8}
        yield (row, row, (leaf,) * 7 + (value,)), errors.TooGreat, {"most": 8}
        yield (row, row, (leaf,) * 6 + (value, leaf)), errors.BadTree, {"path": (2, 6)}
        yield (value, row, (leaf,) * 9), errors.BadTree, {"path": ()}
    yield (row, row, (leaf,) * 8), errors.TooGreat, {"most": 8}
    yield (row, row, (leaf,) * 1000), errors.TooGreat, {"most": 8}
    yield tree_line(units, 3000, None), errors.TooGreat, {"most": 8}


def wrong_path(units):
    """What is the path of no yard of the sample tree."""
    for value in (*STRAY, *no_paths()):
        yield value, errors.BadIndex, {"value": value}


def no_paths():
    yield from ([], [2, 0], (2,), (0,), (2, 2), (2, -1), (2, 0, 2), (2, 0, 2, 0), (1, 0), (0, 2), (2, 10 ** 70))
    yield from ((2, True), (2, False), (2, "0"), ("2", 0), (2, None), (2, (0,)), ((2, 0),), (2, Alike()))
    yield from ((Alike(), 0), Alike(), (None,), range(2), (2, 0) * 3000)


def wrong_path_below(units):
    """The same, and that of the root."""
    yield (), errors.BadIndex, {"value": ()}
    yield from wrong_path(units)


def plan_line(deep, inner):
    """A plan so many plans deep, with something in the place of the last one."""
    for _ in range(deep - 1):
        inner = ("ours", END, inner)
    return inner


def full_plan(deep):
    """A plan that is so deep and has each choice that it can have: 2 ** deep - 1 parts."""
    return END if deep == 1 else ("either", full_plan(deep - 1), full_plan(deep - 1))


def wrong_plan(units):
    row = zero_row(units)
    forms = [*STRAY, (), ("end", ()), ("end", END), ["end"], ("End",), (b"end",), "end", ("ask",), ("ask", row)]
    forms += [("ask", row, END, END), ["ask", row, END], ("asks", row, END), ("pass", END), ("either", END), ("ours",)]
    forms += [("either", END, END, END), ["ours", END, END], ("Either", END, END), (None, END, END), (True,), (row,)]
    forms += [Alike(), (Alike(),), (Alike(), row, END), (Alike(), END, END), ("ask", Alike(), END), (("end",),)]
    return wrong_plan_walk(units, forms, ("ask", row), ("bring", row))


def wrong_plan_walk(units, forms, ask, bring):
    """What is raised for wrong plans, or yard plans, out of some wrong forms and good deeds."""
    forms += [(*deed[:-1], wrong, END) for deed in (ask, bring) if isinstance(deed[-1], tuple)
              for wrong, _, _ in wrong_row(units)]
    behind = len(ask)
    for value in forms:
        yield value, errors.BadPlan, {"path": ()}
    for value in forms[::2]:
        yield (*ask, value), errors.BadPlan, {"path": (behind,)}
        yield ("either", value, None), errors.BadPlan, {"path": (1,)}
        yield ("ours", END, (*bring, ("either", END, value))), errors.BadPlan, {"path": (2, behind, 2)}
        yield plan_line(16, value), errors.BadPlan, {"path": (2,) * 15}
        yield plan_line(17, value), errors.TooGreat, {"most": 16}
        # Here 59 and 60 parts are met ahead of the last one.
        yield ("ours", full_plan(5), ("ours", plan_line(13, (*ask, END)), value)), errors.BadPlan, {"path": (2, 2)}
        yield ("ours", full_plan(5), ("ours", plan_line(14, END), value)), errors.TooGreat, {"most": 60}
    yield full_plan(6), errors.TooGreat, {"most": 60}
    yield plan_line(3000, None), errors.TooGreat, {"most": 16}


def wrong_choices(units):
    """What does not choose in the sample plan."""
    for value in (*STRAY, [1, 1], Alike()):
        yield value, errors.BadSteps, {"place": 0}
    for value in (*STRAY, 3, -1, (1,), "1", Alike()):
        for choices, place in (((value,), 0), ((value, 1), 0), ((1, value), 1), ((2, value), 1), ((1, 2, value), 2)):
            yield choices, errors.BadSteps, {"place": place}
    for choices, place in (((), 0), ((1,), 1), ((1, 1, 1), 2), ((2, 2), 1), ((2, None, 1), 1), ((1, 2) * 500, 2)):
        yield choices, errors.BadSteps, {"place": place}


def wrong_yards(units):
    wrong = [*STRAY, [0], [], (1,), (-1,), (0, 2), (0, 0, 3), (0, 1, 3), (0, 0, 0, 0), (True,), (False,), (0, True)]
    wrong += [(0, "0"), (None,), ((0,),), (0, 0, None), (Alike(),), Alike(), range(1), (0, 10 ** 70)]
    for value in wrong:
        yield value, errors.BadParameter, {"value": value}


def wrong_yard_plan(units):
    row = zero_row(units)
    forms = [*STRAY, (), ("end", ()), ["end"], ("End",), ("ask", row, END), ("ask", 0, END), ("ask", 0, 0), ("ask",)]
    forms += [("ask", 0, 0, END, END), ["ask", 0, 0, END], ("asks", 0, 0, END), ("either", END), ("ours", END)]
    forms += [("either", END, END, END), ["ours", END, END], (None, END, END), (b"ask", 0, 0, END), ("ask", 0, row, END)]
    forms += [("bring", 0, 0, END), ("bring", row, END), ("bring", row, 0, END), Alike(), (Alike(), 0, 0, END)]
    for yard in no_integer_to(2):
        forms += [("ask", yard, 0, END), ("bring", yard, row, END)]
    forms += [("ask", 0, unit, END) for unit in no_integer_to(len(units))]
    return wrong_plan_walk(units, forms, ("ask", 0, 0), ("bring", 0, row))


def wrong_stocks(units):
    row = zero_row(units)
    for value in (*STRAY, (), (row,), (row, row), (row,) * 4, [row] * 3, (None,) * 4, Alike(), row):
        if not isinstance(value, tuple) or len(value) != 3:
            yield value, errors.BadRows, {"place": ()}
    for wrong, _, _ in wrong_row(units):
        yield (wrong, row, row), errors.BadRows, {"place": (0,)}
        yield (row, wrong, None), errors.BadRows, {"place": (1,)}
        yield (row, row, wrong), errors.BadRows, {"place": (2,)}


def wrong_deeds(units):
    row = zero_row(units)
    deeds = [*STRAY, (), ("pass", row), ("pass", ()), ["pass"], ("Pass",), (b"pass",), ("ask",), ("ask", row, row)]
    deeds += [["ask", row], ("bring",), ("asks", row), (None, row), (True, row), Alike(), (Alike(),), (Alike(), row)]
    deeds += [(row,), ("ask", Alike()), ("end",), (("pass",),), ("ask", row, 0)]
    return deeds + [(word, wrong) for word in ("ask", "bring") for wrong, _, _ in wrong_row(units)]


def wrong_deed(units):
    for value in wrong_deeds(units):
        yield value, errors.BadParameter, {"value": value}


def wrong_world(units):
    row = zero_row(units)
    step = (0, ("ask", row), 1)
    for value in (*STRAY, (), (2,), (2, (), ()), [2, ()], Alike(), ((), 2, 2)):
        yield value, errors.BadWorld, {"place": ()}
    for value in (*no_integer_to(8), 0, 9, Alike()):
        yield (value, ()), errors.BadWorld, {"place": (0,)}
        yield (value, None), errors.BadWorld, {"place": (0,)}
    for value in (*STRAY, [step], (step,) * 15, (None,) * 15, Alike()):
        yield (2, value), errors.BadWorld, {"place": (1,)}
    wrong = [*STRAY, (), (0, ("pass",)), (0, 1), (0, ("pass",), 0, 0), [0, ("pass",), 0], Alike()]
    wrong += [(0, deed, 1) for deed in wrong_deeds(units)]
    for place in (*no_integer_to(1), Alike()):
        wrong += [(place, ("pass",), 0), (1, ("ask", row), place)]
    for value in wrong:
        yield (2, (value,)), errors.BadWorld, {"place": (1, 0)}
        yield (2, (step, step, value, None)), errors.BadWorld, {"place": (1, 2)}
    yield (2, (step,) * 13 + (None,)), errors.BadWorld, {"place": (1, 13)}


def wrong_walk(units):
    """What is no walk in the sample world."""
    for value in (*STRAY, [0], [], Alike()):
        yield value, errors.BadSteps, {"place": 0}
    yield (None,) * 61, errors.TooGreat, {"most": 60}
    yield (0, 1) * 30 + (0,), errors.TooGreat, {"most": 60}
    for value in (*no_integer_to(1), 2, Alike()):
        yield (value,), errors.BadSteps, {"place": 0}
        yield (0, 1, value, None), errors.BadSteps, {"place": 2}
        yield (0, 1) * 29 + (0, value), errors.BadSteps, {"place": 59}
    yield (1,), errors.BadSteps, {"place": 0}
    yield (0, 0), errors.BadSteps, {"place": 1}
    yield (0, 1, 1), errors.BadSteps, {"place": 2}


def wrong_step(units):
    """What is the index of no step of the sample world."""
    for value in (*no_integer_to(1), Alike()):
        yield value, errors.BadIndex, {"value": value}


def wrong_count_to(most):
    def wrong(units):
        for value in (*no_integer_to(most), Alike()):
            yield value, errors.BadParameter, {"value": value}
    return wrong


WRONG.update({
    "rule": wrong_rule, "tree": wrong_tree, "path": wrong_path, "path below": wrong_path_below, "plan": wrong_plan,
    "choices": wrong_choices, "yards": wrong_yards, "yard plan": wrong_yard_plan, "stocks": wrong_stocks,
    "world": wrong_world, "walk": wrong_walk, "step": wrong_step, "deed": wrong_deed,
    "steps to 60": wrong_count_to(60), "steps to 10 ** 9": wrong_count_to(10 ** 9),
})
