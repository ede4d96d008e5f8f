"""Wrong values for words, wheels, draws, joinings and what goes with them.

Importing this file puts its kinds of wrong parameters among those that `wrong_each` knows.
"""

from stairyard import errors
from tests.tools import STRAY, WRONG, Alike, no_integer_to, swapped

LEAF = ("leaf", 0)
THING = ("thing", 0)


def no_wholes(most, many, good):
    """What is no tuple of at most so many integers from 0 to `most`."""
    yield from STRAY
    yield from ([good], Alike(), range(1), (good,) * (many + 1), (None,) * (many + 1))
    for value in (*no_integer_to(most), Alike()):
        yield (value,)
        yield (good,) * (many - 1) + (value,)


def wrong_words_beside(units, good):
    """What are no words beside some that are good."""
    for value in (*STRAY, [()], Alike(), range(2)):
        yield value, errors.BadWords, {"place": ()}
    for value in ((None,) * 61, good[:1] * 61):
        yield value, errors.TooGreat, {"most": 60}
    wrong = [*STRAY, [], Alike(), range(1), (0,) * (len(units) + 1), (None,), (Alike(),), ((),), ("0",), "0", (-1,)]
    for at, ratio in enumerate(units):
        for letter in (True, False, None, "0", -1, ratio, ratio + 1, 10 ** 70, (0,)):
            wrong.append((0,) * at + (letter,))
            wrong.append(swapped((0,) * len(units), at, letter))
    for value in wrong:
        yield (value,), errors.BadWords, {"place": (0,)}
        yield (*good, value, None), errors.BadWords, {"place": (len(good),)}
    yield good[:1] * 59 + (None,), errors.BadWords, {"place": (59,)}


def wrong_words(units):
    return wrong_words_beside(units, ((),))


def wrong_code(units):
    """What are no words with which texts are made: none of them may be empty or stand twice."""
    good = tuple((letter,) for letter in range(units[0]))
    yield from wrong_words_beside(units, good)
    for value, place in (((),), 0), ((*good, (), ()), len(good)), ((*good, good[0]), len(good)), ((good[0],) * 60, 1):
        yield value, errors.BadWords, {"place": (place,)}
    # All words are looked at for their form first.
    yield ((), None), errors.BadWords, {"place": (1,)}


def wrong_lengths(units):
    for value in no_wholes(len(units), 60, 0):
        yield value, errors.BadParameter, {"value": value}


def wrong_wheel(units):
    for value in (*STRAY, [(0, 0)], Alike(), range(2)):
        yield value, errors.BadWheel, {"place": ()}
    for value in ((None,) * 61, ((0, 0),) * 61):
        yield value, errors.TooGreat, {"most": 60}
    wrong = [*STRAY, (), (0,), (0, 0, 0), [0, 0], Alike(), (Alike(), 0), (0, Alike()), "00"]
    for unit in no_integer_to(len(units)):
        wrong.append((unit, 0))
    period = 1
    for unit in range(len(units) + 1):
        wrong += [(unit, start) for start in (*no_integer_to(period - 1), period, -1)]
        period *= (*units, 1)[unit]
    for value in wrong:
        yield (value,), errors.BadWheel, {"place": (0,)}
        yield ((0, 0), (0, 0), value, None), errors.BadWheel, {"place": (2,)}
    yield ((0, 0),) * 59 + (None,), errors.BadWheel, {"place": (59,)}


def wrong_tick(units):
    for value in (*no_integer_to(10 ** 60), Alike()):
        yield value, errors.BadParameter, {"value": value}


def wrong_end(units):
    for value in (*no_integer_to(10 ** 60 + 3), Alike()):
        yield value, errors.BadParameter, {"value": value}


def wrong_nested(units, kinds, error, wrong):
    """What is raised for wrong forms within a draw or a joining of these kinds."""
    leaf = (kinds[0], 0)
    for value in wrong:
        yield value, error, {"path": ()}
    if units:
        yield (kinds[1], ()), error, {"path": ()}
        yield (kinds[1], (leaf,) * (units[0] + 1)), error, {"path": ()}
        for value in wrong:
            yield (kinds[1], (leaf,) * (units[0] - 1) + (value,)), error, {"path": (1, units[0] - 1)}
            yield (kinds[1], (value,) + (None,) * (units[0] - 1)), error, {"path": (1, 0)}
    # One throw or join more than there are levels.
    deepest = (kinds[1], (leaf, leaf))
    for ratio in reversed(units):
        deepest = (kinds[1], (deepest,) + (None,) * (ratio - 1))
    yield deepest, error, {"path": (1, 0) * len(units)}


def wrong_draw(units):
    wrong = [*STRAY, (), ("leaf",), ("leaf", 0, 0), ["leaf", 0], ("Leaf", 0), (b"leaf", 0), "leaf", (Alike(), 0)]
    wrong += [("leaf", outcome) for outcome in (*no_integer_to(59), 60, (0,), Alike()) if outcome is not None]
    wrong += [("throw",), ("throw", None), ("throw", ()), ("throw", [LEAF, LEAF]), ("throw", "leaf"), ("throws", ())]
    wrong += [("throw", (LEAF,)), ("throw", (LEAF,) * 11), ["throw", (LEAF, LEAF)], THING, Alike(), ("leaf", LEAF)]
    wrong += [("throw", (LEAF, LEAF), 0), ("throw", range(2)), ("throw", Alike())]
    return wrong_nested(units, ("leaf", "throw"), errors.BadDraw, wrong)


def wrong_joins(units):
    wrong = [*STRAY, (), ("thing",), ("thing", 0, 0), ["thing", 0], ("Thing", 0), (b"thing", 0), "thing", (Alike(), 0)]
    wrong += [("thing", number) for number in (*no_integer_to(59), 60, (0,), Alike(), None)]
    wrong += [("join",), ("join", None), ("join", ()), ("join", [THING]), ("join", (THING,) * 11), ("joins", (THING,))]
    wrong += [["join", (THING,)], LEAF, Alike(), ("thing", THING), ("join", (THING,), 0), ("join", range(1))]
    wrong += [("join", Alike()), ("join", {})]
    return wrong_nested(units, ("thing", "join"), errors.BadJoins, wrong)


def wrong_throws(units):
    good = (0,) * len(units)
    for value in (*STRAY, list(good), good + (0,), good[:-1], Alike(), range(len(units))):
        if value != good or not isinstance(value, tuple):
            yield value, errors.BadSteps, {"place": ()}
    for at, ratio in enumerate(units):
        for side in (*no_integer_to(ratio - 1), ratio, Alike()):
            yield good[:at] + (side,) + (None,) * (len(units) - at - 1), errors.BadSteps, {"place": (at,)}


def wrong_shares(units):
    for value in no_wholes(10 ** 60, 60, 0):
        yield value, errors.BadParameter, {"value": value}
    whole = 1
    for ratio in units:
        whole *= ratio
    for value in ((whole + 1,), (10 ** 60,) * 60, (0, whole, 0, 1)):
        yield value, errors.TooGreat, {"most": whole}


def wrong_ready(units):
    yield (), errors.BadParameter, {"value": ()}
    for value in no_wholes(10 ** 60, 60, 0):
        yield value, errors.BadParameter, {"value": value}


WRONG.update({
    "words": wrong_words, "code": wrong_code, "lengths": wrong_lengths, "wheel": wrong_wheel, "tick": wrong_tick,
    "end": wrong_end, "draw": wrong_draw, "joins": wrong_joins, "throws": wrong_throws, "shares": wrong_shares,
    "ready": wrong_ready,
})
