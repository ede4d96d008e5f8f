"""Sheets: lines that name rows, trees, plans, formulas and worlds, and say of them what is so or not."""

from stairyard.errors import BadParameter, BadText, NoRow, TooGreat
from stairyard.formulas import is_enough_for
from stairyard.plans import lives, plans_apart
from stairyard.rings import endless_unit
from stairyard.rows import is_within
from stairyard.spares import spare
from stairyard.stairs import lack, rest
from stairyard.texts import is_number_word, need_end, value_told, word_at, words_of
from stairyard.worlds import outlives
from stairyard.yards import is_served, yard_paths

KINDS = ("row", "tree", "plan", "formula", "world")

# What stands behind the first name of a saying and the word behind it: kinds of names, and other words.
SAYINGS = {
    "row within": ("row",),
    "row lacks": ("row", "for", "row"),
    "row leaves": ("row", "behind", "row"),
    "tree served": (),
    "tree spares": ("row", "at", "numbers"),
    "plan lives": ("row",),
    "plan like": ("plan",),
    "formula enough": ("row",),
    "world lives": ("row",),
    "world endless": (),
}


class Sheet:
    """What the lines of a text name, and whether what they say is so."""

    def __init__(self, text):
        lines = _lines_with_words(text)
        line, words = lines[0]
        self.units = _units_told(line, words)
        self._named = {}
        sayings = []
        for line, words in lines[1:]:
            if words[0] in ("say", "deny"):
                form, values = _saying_told(line, words, self._named)
                sayings.append((line, words[0] == "say", form, values))
            else:
                name, kind, value = _naming_told(self.units, line, words, self._named)
                self._named[name] = (kind, value)
        self.rows = tuple([(line, _is_so(self.units, form, values) == said) for line, said, form, values in sayings])
        self._lines = tuple([" ".join(words) for _, words in lines])

    def all_true(self):
        """Return whether all lines that say or deny something are true."""
        return all([truth for _, truth in self.rows])

    def named(self, name):
        """Return the kind and the value that have a name."""
        if not isinstance(name, str) or name not in self._named:
            raise BadParameter(name)
        return self._named[name]

    def __len__(self):
        return len(self.rows)

    def __iter__(self):
        return iter(self.rows)

    def __eq__(self, other):
        return isinstance(other, Sheet) and self._lines == other._lines

    def __str__(self):
        return "\n".join(self._lines)


def _lines_with_words(text):
    """Return the pairs of the number of a line and of its words, for all lines that have some."""
    if not isinstance(text, str):
        raise BadText(0, 0)
    lines = text.split("\n")
    found = [(line, words_of(told)) for line, told in enumerate(lines) if words_of(told)]
    if not found:
        raise BadText(0, 0)
    if len(lines) > 200:
        raise TooGreat(200)
    return found


def _units_told(line, words):
    if words[0] != "units":
        raise BadText(line, 0)
    for at, word in enumerate(words):
        if at > 3 or at > 0 and not _is_ratio(word):
            raise BadText(line, at)
    return tuple([int(word) for word in words[1:]])


def _is_ratio(word):
    return is_number_word(word) and 2 <= int(word) <= 10


def _naming_told(units, line, words, named):
    """Return the name, the kind and the value that a line gives."""
    kind = words[0]
    if kind not in KINDS:
        raise BadText(line, 0)
    name = word_at(words, 1)
    if name is None or not _is_name(name) or name in named:
        raise BadText(line, 1)
    _need_word(line, words, 2, "is")
    return (name, kind, value_told(units, line, words, 3, kind))


def _is_name(word):
    letters = "ABCDEFGHIJKLMNOPQRSTUVWXYZ"
    return word[0] in letters and len(word) <= 8 and all([sign in letters + "0123456789" for sign in word])


def _need_word(line, words, at, told):
    if word_at(words, at) != told:
        raise BadText(line, at)


def _saying_told(line, words, named):
    """Return the saying of a line: its form, and the values and numbers that it tells, in their order."""
    first = word_at(words, 1)
    if first not in named:
        raise BadText(line, 1)
    kind, value = named[first]
    form = f"{kind} {word_at(words, 2)}"
    if form not in SAYINGS:
        raise BadText(line, 2)
    values = [value]
    at = 3
    for told in SAYINGS[form]:
        if told == "numbers":
            while word_at(words, at) is not None:
                values.append(_number_told(line, words, at))
                at = at + 1
        else:
            if told in KINDS:
                values.append(_value_named(line, words, at, told, named))
            else:
                _need_word(line, words, at, told)
            at = at + 1
    need_end(line, words, at)
    return (form, values)


def _number_told(line, words, at):
    if not is_number_word(word_at(words, at)):
        raise BadText(line, at)
    return int(words[at])


def _value_named(line, words, at, kind, named):
    """Return the value of this kind that the word with a number names."""
    name = word_at(words, at)
    if name not in named or named[name][0] != kind:
        raise BadText(line, at)
    return named[name][1]


def _is_so(units, form, values):
    """Return whether a saying is so; what follows a name in it has been checked."""
    value = values[0]
    if form == "row within":
        return is_within(units, value, values[1])
    if form == "row lacks":
        return lack(units, values[2], value) == values[1]
    if form == "row leaves":
        return is_within(units, values[2], value) and rest(units, value, values[2]) == values[1]
    if form == "tree served":
        return is_served(units, value)
    if form == "tree spares":
        return _spares(units, value, values[1], tuple(values[2:]))
    if form == "plan lives":
        return lives(units, value, values[1])
    if form == "plan like":
        return _are_alike(units, value, values[1])
    if form == "formula enough":
        return is_enough_for(units, value, values[1])
    if form == "world lives":
        return outlives(units, value, values[1])
    return endless_unit(units, value) is not None


def _spares(units, tree, row, path):
    if not is_served(units, tree) or path not in yard_paths(units, tree):
        return False
    return spare(units, tree, path) == row


def _are_alike(units, first, second):
    try:
        plans_apart(units, first, second)
    except NoRow:
        return True
    return False
