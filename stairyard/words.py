"""Words, which stand for the pieces that are cut out of one piece of the unit 0, and texts made of words."""

from stairyard.errors import BadParameter, BadWords, NoRow, TooGreat, Unlike
from stairyard.plain import is_tuple_of, is_whole, is_wholes, need_fits, nowhere_greater, stair_made
from stairyard.rows import need_row
from stairyard.units import need_units, sizes


def need_words(units, value):
    """Return a tuple of at most 60 words."""
    need_units(units)
    if not isinstance(value, tuple):
        raise BadWords(())
    if len(value) > 60:
        raise TooGreat(60)
    for index, word in enumerate(value):
        if not _is_word(units, word):
            raise BadWords((index,))
    return value


def words_row(units, words):
    """Return the row with, for each unit, how many words stand for a piece of it."""
    need_words(units, words)
    return row_counted(units, [len(word) for word in words])


def words_clash(units, words):
    """Return the least pair of the numbers of two words of which one begins the other one."""
    need_words(units, words)
    clash = first_clash(words)
    if clash is None:
        raise NoRow()
    return clash


def first_words(units, row):
    """Return words that are apart, with this row, each the least one that those ahead of it let."""
    need_row(units, row)
    need_fits(units, row)
    if sum(row) > 60:
        raise TooGreat(60)
    return tuple(words_placed(units, lengths_of(row))[0])


def free_words(units, words):
    """Return all words that are apart from these, and of which no shorter beginning is so."""
    _need_apart(units, words)
    free = words_left(units, words)
    if len(free) > 60:
        raise TooGreat(60)
    return tuple(free)


def words_behind(units, words, row):
    """Return further words with this row, each the least one that these and those ahead of it let."""
    need_words(units, words)
    need_row(units, row)
    _need_apart(units, words)
    return tuple(words_added(units, words, row, lambda word: word))


def order_end(units, lengths):
    """Return where words of these lengths end, one behind the other, counted in pieces of the least unit."""
    _need_lengths(units, lengths)
    return words_placed(units, lengths)[1]


def words_in_order(units, lengths):
    """Return words of these lengths that are apart and ascend, each as little as those ahead of it let."""
    _need_lengths(units, lengths)
    words, end = words_placed(units, lengths)
    if end > sizes(units)[0]:
        raise NoRow()
    return tuple(words)


def two_readings(units, words):
    """Return the shortest text with two readings, and its two least readings."""
    _need_code(units, words)
    text = _twofold_text(units[0], words)
    if text is None:
        raise NoRow()
    return (text, *_least_readings(words, text))


def is_two_readings(units, words, value):
    """Return whether a value is a text and two unlike readings of it."""
    _need_code(units, words)
    if not is_tuple_of(value, 3):
        return False
    text, one, other = value
    if not isinstance(text, tuple) or not all([is_whole(letter, 0, units[0] - 1) for letter in text]):
        return False
    return _is_reading(words, text, one) and _is_reading(words, text, other) and one != other


def row_counted(units, lengths):
    """Return the row with one piece of each of some units."""
    row = [0] * (len(units) + 1)
    for length in lengths:
        row[length] = row[length] + 1
    return tuple(row)


def lengths_of(row):
    """Return the unit of each piece of a row, ascending."""
    return [unit for unit, many in enumerate(row) for _ in range(many)]


def first_clash(words):
    """Return the least pair of the numbers of two words that are not apart, None if all are."""
    for number, word in enumerate(words):
        for later in range(number + 1, len(words)):
            if not _are_apart(word, words[later]):
                return (number, later)
    return None


def words_placed(units, lengths):
    """Return words of these lengths, each at the first place behind the ones ahead, and where the last one ends.

    Places are counted in pieces of the least unit; words that end behind one piece of the unit 0 are none.
    """
    size = sizes(units)
    words = []
    end = 0
    for length in lengths:
        start = -(-end // size[length]) * size[length]
        words.append(tuple([start // size[unit + 1] % units[unit] for unit in range(length)]))
        end = start + size[length]
    return (words, end)


def words_left(units, words):
    """Return, ascending, all words that are apart from these, and of which no shorter beginning is so."""
    free = []
    waiting = [()]
    while waiting:
        begun = waiting.pop()
        met = [word for word in words if not _are_apart(begun, word)]
        if not met:
            free.append(begun)
        elif len(met[0]) > len(begun):
            # The last one in is the first one out: so the least word comes next.
            waiting.extend([(*begun, letter) for letter in reversed(range(units[len(begun)]))])
    return free


def words_added(units, words, row, place_of):
    """Return further words with a row, each at the first place that these and those ahead of it let.

    place_of(word) tells in which order the words that are free are taken.
    """
    free = words_left(units, words)
    free_row = row_counted(units, [len(word) for word in free])
    if not nowhere_greater(stair_made(units, row), stair_made(units, free_row)):
        raise NoRow()
    if sum(row) > 60:
        raise TooGreat(60)
    added = []
    for length in lengths_of(row):
        _, part = min([(place_of(word), word) for word in free if len(word) <= length])
        free.remove(part)
        # Of the free word the first part of this length is taken, the other ones that are cut off stay free.
        while len(part) < length:
            free.extend([(*part, letter) for letter in range(1, units[len(part)])])
            part = (*part, 0)
        added.append(part)
    return added


def grown(units, things, kinds, nothing):
    """Return what grows out of words that are apart: (KIND, THING) at each word, (OTHER KIND, SUBS) ahead of words.

    `things` has the thing of each word, `kinds` are both kinds, `nothing` stands where no word leads; where it is
    None, such places are left out.
    """
    if not things:
        return nothing
    if () in things:
        return (kinds[0], things[()])
    subs = []
    for letter in range(units[0]):
        within = {word[1:]: thing for word, thing in things.items() if word[0] == letter}
        subs.append(grown(units[1:], within, kinds, nothing))
    return (kinds[1], tuple([sub for sub in subs if sub is not None]))


def _is_word(units, value):
    if not isinstance(value, tuple) or len(value) > len(units):
        return False
    return all([is_whole(letter, 0, ratio - 1) for letter, ratio in zip(value, units)])


def _are_apart(one, other):
    shorter = min(len(one), len(other))
    return one[:shorter] != other[:shorter]


def _need_apart(units, words):
    need_words(units, words)
    clash = first_clash(words)
    if clash is not None:
        raise Unlike(clash)


def _need_lengths(units, lengths):
    need_units(units)
    if not is_wholes(lengths, 60, 0, len(units)):
        raise BadParameter(lengths)


def _need_code(units, words):
    """Check units of one ratio, and words that are unlike and have letters."""
    need_units(units)
    if not units or units != (units[0],) * len(units):
        raise Unlike(units)
    need_words(units, words)
    for index, word in enumerate(words):
        if not word or word in words[:index]:
            raise BadWords((index,))


def _twofold_text(ratio, words):
    """Return the least one of the shortest texts with two readings, None if there is none.

    Both readings are gone through letter by letter: (ONE, OTHER, UNLIKE) are the letters of the word that each
    of them is within, and whether one of them was at a word's end where the other one was not.
    """
    ways = _ways_on(words)
    met = {((), (), False): True}
    fresh = {((), (), False): ()}
    while fresh:
        found = {}
        for (one, other, unlike), text in fresh.items():
            for letter in range(ratio):
                for first in ways.get((*one, letter), ()):
                    for second in ways.get((*other, letter), ()):
                        state = (first, second, unlike or len(first) != len(second))
                        longer = (*text, letter)
                        found[state] = min(longer, found.get(state, longer))
        if ((), (), True) in found:
            return found[((), (), True)]
        fresh = {state: text for state, text in found.items() if state not in met}
        for state in fresh:
            met[state] = True
    return None


def _ways_on(words):
    """Return, for all letters with which a word begins or that are one, what is left open behind them."""
    ways = {}
    for word in words:
        for length in range(1, len(word)):
            ways.setdefault(word[:length], {})[word[:length]] = True
        ways.setdefault(word, {})[()] = True
    return ways


def _least_readings(words, text):
    """Return the two least readings of a text."""
    behind = {len(text): [()]}
    for start in reversed(range(len(text))):
        found = []
        for number, word in enumerate(words):
            end = start + len(word)
            if text[start:end] == word:
                found.extend([(number, *reading) for reading in behind[end]])
        behind[start] = sorted(found)[:2]
    return behind[0]


def _is_reading(words, text, value):
    if not isinstance(value, tuple) or not all([is_whole(number, 0, len(words) - 1) for number in value]):
        return False
    letters = []
    for number in value:
        letters.extend(words[number])
    return tuple(letters) == text
