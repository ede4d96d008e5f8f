"""Rows, trees, plans, formulas and worlds written as texts, and read."""

from stairyard.errors import BadText, TooGreat
from stairyard.formulas import need_formula
from stairyard.plans import need_plan
from stairyard.rows import need_row
from stairyard.units import need_units
from stairyard.worlds import need_world
from stairyard.yards import need_tree

# What comes in the place of a form when its first word, told behind it, is read: forms, words and what is done.
# ("begin", ..) begins a value with some things, ("made", N) ends it: all but the first N things stand in a tuple.
BEHIND = {
    "row (": (("begin",), "numbers", ")", ("made",)),
    ") )": (),
    "tree {": (("begin",), "row", "row", "trees"),
    "trees {": (("begin",), "row", "row", "trees", "trees"),
    "trees }": (("made", 2),),
    "plan end": (("begin", "end"), ("made",)),
    "plan ask": (("begin", "ask"), "row", "plan", ("made",)),
    "plan bring": (("begin", "bring"), "row", "plan", ("made",)),
    "plan either": (("begin", "either"), "plan", "plan", ("made",)),
    "plan ours": (("begin", "ours"), "plan", "plan", ("made",)),
    "formula (": (("begin", "row"), ("begin",), "numbers", ")", ("made",), ("made",)),
    "formula together": (("begin", "together"), "[", "formulas"),
    "formula any": (("begin", "any"), "[", "formulas"),
    "formula one": (("begin", "one"), "[", "formulas"),
    "[ [": (),
    "formulas (": (("begin", "row"), ("begin",), "numbers", ")", ("made",), ("made",), "formulas"),
    "formulas together": (("begin", "together"), "[", "formulas", "formulas"),
    "formulas any": (("begin", "any"), "[", "formulas", "formulas"),
    "formulas one": (("begin", "one"), "[", "formulas", "formulas"),
    "formulas ]": (("made", 1),),
    "world places": (("begin",), "number", "steps"),
    "steps ;": (("begin",), "number", "deed", "number", ("made",), "steps"),
    "deed ask": (("begin", "ask"), "row", ("made",)),
    "deed bring": (("begin", "bring"), "row", ("made",)),
    "deed pass": (("begin", "pass"), ("made",)),
}


def row_text(units, row):
    """Return the text of a row."""
    return _row_written(need_row(units, row))


def tree_text(units, tree):
    """Return the text of a tree."""
    return _tree_written(need_tree(units, tree))


def plan_text(units, plan):
    """Return the text of a plan."""
    return _plan_written(need_plan(units, plan))


def formula_text(units, formula):
    """Return the text of a formula."""
    return _formula_written(need_formula(units, formula))


def world_text(units, world):
    """Return the text of a world."""
    places, steps = need_world(units, world)
    words = [f"; {source} {_plan_written(deed)} {to}" for source, deed, to in steps]
    return " ".join(["places", str(places), *words])


def read_row(units, text):
    """Return the row that a text tells."""
    return _read(units, text, "row")


def read_tree(units, text):
    """Return the tree that a text tells."""
    return _read(units, text, "tree")


def read_plan(units, text):
    """Return the plan that a text tells."""
    return _read(units, text, "plan")


def read_formula(units, text):
    """Return the formula that a text tells."""
    return _read(units, text, "formula")


def read_world(units, text):
    """Return the world that a text tells."""
    return _read(units, text, "world")


def words_of(text):
    """Return the words of a text or of a line of it."""
    return [word for word in text.split(" ") if word]


def word_at(words, at):
    """Return the word with a number, None behind the last one; TooGreat for the 401st one."""
    if at >= len(words):
        return None
    if at == 400:
        raise TooGreat(400)
    return words[at]


def need_end(line, words, at):
    """Raise BadText if a line has a word with this number."""
    if word_at(words, at) is not None:
        raise BadText(line, at)


def is_number_word(word):
    """Return whether a word is a number without needless zeros, of at most 61 figures."""
    if word is None or not word.isascii() or not word.isdigit():
        return False
    return len(word) <= 61 and (word == "0" or not word.startswith("0"))


def value_told(units, line, words, at, form):
    """Return the value of a form that the words of a line tell, from one of them on to the end.

    BadText at the first word that is not as told, TooGreat for the 401st one, then the errors of the form.
    """
    told = [[]]
    # What is told next stands last.
    ahead = [form]
    while ahead:
        part = ahead.pop()
        if isinstance(part, tuple):
            _do_part(told, part)
        elif part == "numbers":
            ahead.extend(["number"] * (len(units) + 1))
        elif part == "steps" and word_at(words, at) is None:
            # The steps of a world end with the line: nothing else shows that there are no more.
            ahead.append(("made", 1))
        else:
            ahead.extend(_behind_word(told, line, part, word_at(words, at), at)[::-1])
            at = at + 1
    need_end(line, words, at)
    return _checked(units, told[0][0], form)


def _read(units, text, form):
    need_units(units)
    if not isinstance(text, str):
        raise BadText(0, 0)
    return value_told(units, 0, words_of(text), 0, form)


def _behind_word(told, line, part, word, at):
    """Return what comes behind a word in a form; keep it if it is a number."""
    if part == "number" and is_number_word(word):
        told[-1].append(int(word))
        return ()
    behind = BEHIND.get(f"{part} {word}")
    if word is None or behind is None:
        raise BadText(line, at)
    return behind


def _do_part(told, part):
    """Begin or end a value among those that are told by now, each within the one ahead of it."""
    if part[0] == "begin":
        told.append(list(part[1:]))
    else:
        value = tuple(told.pop())
        if len(part) > 1:
            value = (*value[:part[1]], value[part[1]:])
        told[-1].append(value)


def _checked(units, value, form):
    if form == "row":
        return need_row(units, value)
    if form == "tree":
        return need_tree(units, value)
    if form == "plan":
        return need_plan(units, value)
    if form == "formula":
        return need_formula(units, value)
    return need_world(units, value)


def _row_written(row):
    return " ".join(["(", *[str(many) for many in row], ")"])


def _tree_written(tree):
    stock, asks, under = tree
    words = ["{", _row_written(stock), _row_written(asks), *[_tree_written(yard) for yard in under], "}"]
    return " ".join(words)


def _plan_written(plan):
    """Return the text of a plan, or of a deed, which is written as a plan without another one behind it."""
    words = [plan[0]]
    if plan[0] in ("ask", "bring"):
        words.append(_row_written(plan[1]))
        words.extend([_plan_written(behind) for behind in plan[2:]])
    else:
        words.extend([_plan_written(part) for part in plan[1:]])
    return " ".join(words)


def _formula_written(formula):
    word, inner = formula
    if word == "row":
        return _row_written(inner)
    return " ".join([word, "[", *[_formula_written(part) for part in inner], "]"])
