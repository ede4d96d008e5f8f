"""A yard led: a served tree that is changed by deeds, each of which can be refused or taken back."""

from stairyard.errors import BadDeed, BadIndex, BadParameter, NothingBack, TooGreat, Unlike
from stairyard.plain import begins_with, is_from, is_row, minus, nowhere_greater, suits
from stairyard.reshaped import asked_more, closed, moved, stocked
from stairyard.spares import least_added, spare
from stairyard.yards import need_tree, needs, number_of, with_yard, yard_at


class House:
    """A served tree and the deeds by which it has come about."""

    def __init__(self, units, tree):
        _need_served(units, need_tree(units, tree))
        self.units = units
        self._tree = tree
        self._log = ()
        # The tree ahead of each deed in the log.
        self._past = ()

    def tree(self):
        """Return the tree as it is now."""
        return self._tree

    def needs(self):
        """Return the needs of all yards."""
        return needs(self.units, self._tree)

    def spare(self, path):
        """Return what the yard with this path has to spare."""
        return spare(self.units, self._tree, path)

    def do(self, deed):
        """Do a deed."""
        if not _is_deed(self.units, deed):
            raise BadDeed(0)
        self._go_on((deed,))

    def follow(self, deeds):
        """Do all of some deeds in turn, or none."""
        _need_deeds(self.units, deeds)
        self._go_on(deeds)

    def trial(self, deeds):
        """Return how many deeds are done ahead of the first one that is refused, and the tree behind them."""
        _need_deeds(self.units, deeds)
        tree = self._tree
        for done, deed in enumerate(deeds):
            try:
                tree = _tree_behind(self.units, tree, deed)
            except (BadIndex, BadParameter, TooGreat, Unlike):
                return (done, tree)
        return (len(deeds), tree)

    def undo(self):
        """Take the last deed back."""
        if not self._log:
            raise NothingBack()
        self._tree = self._past[-1]
        self._past = self._past[:-1]
        self._log = self._log[:-1]

    def log(self):
        """Return the deeds that were done and not taken back."""
        return self._log

    def copy(self):
        """Return a house of its own with the same tree and log."""
        other = House(self.units, self._tree)
        other._log = self._log
        other._past = self._past
        return other

    def __len__(self):
        return len(self._log)

    def __iter__(self):
        return iter(self._log)

    def __eq__(self, other):
        return isinstance(other, House) and self.units == other.units and self._tree == other._tree

    def _go_on(self, deeds):
        """Do some deeds in turn; if one of them is refused, nothing has changed."""
        trees = [self._tree]
        for deed in deeds:
            trees.append(_tree_behind(self.units, trees[-1], deed))
        self._tree = trees[-1]
        self._past = (*self._past, *trees[:-1])
        self._log = (*self._log, *deeds)


def _need_served(units, tree):
    need = needs(units, tree)[0]
    if any(need):
        raise Unlike(need)


def _is_deed(units, value):
    if begins_with(value, ("close",), 2):
        return _is_path(value[1])
    if not begins_with(value, ("ask", "back", "bring", "take", "move"), 3):
        return False
    return _is_path(value[1]) and is_row(units, value[2])


def _is_path(value):
    return isinstance(value, tuple) and all([is_from(index, 0) for index in value])


def _need_deeds(units, deeds):
    if not isinstance(deeds, tuple):
        raise BadDeed(0)
    if len(deeds) > 60:
        raise BadDeed(60)
    for place, deed in enumerate(deeds):
        if not _is_deed(units, deed):
            raise BadDeed(place)


def _tree_behind(units, tree, deed):
    """Return the tree behind a deed; raise the error with which it is refused."""
    path = deed[1]
    number_of(units, tree, path)
    changed = _changed(units, tree, deed)
    # All else in it is as in a tree.
    if not suits(need_tree, units, changed):
        raise TooGreat(10 ** 60)
    if deed[0] == "ask" and any(needs(units, changed)[0]):
        raise Unlike(least_added(units, changed, path))
    _need_served(units, changed)
    return changed


def _changed(units, tree, deed):
    """Return the tree that comes of a deed, be it served or not."""
    word, path = deed[:2]
    if word == "close":
        return closed(units, tree, path)
    row = deed[2]
    if word == "ask":
        return asked_more(units, tree, path, row)
    if word == "bring":
        return stocked(units, tree, path, row)
    if word == "move":
        return moved(units, tree, path, row)
    stock, asks, under = yard_at(tree, path)
    if not nowhere_greater(row, asks if word == "back" else stock):
        raise BadParameter(row)
    less = (stock, minus(asks, row), under) if word == "back" else (minus(stock, row), asks, under)
    return with_yard(tree, path, less)
