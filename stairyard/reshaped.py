"""Trees made of trees, and asks that tell two trees of one shape apart."""

from stairyard.errors import BadIndex, BadParameter, NoRow, Unlike
from stairyard.plain import minus, nowhere_greater, plus
from stairyard.rows import need_row
from stairyard.yards import flat_yards, number_of, root_need, with_yard, yard_at, yard_gaps, yards_met


def asked_more(units, tree, path, row):
    """Return the tree with a row put beside the ASKS of a yard."""
    number_of(units, tree, path)
    need_row(units, row)
    stock, asks, under = yard_at(tree, path)
    return with_yard(tree, path, (stock, plus(asks, row), under))


def stocked(units, tree, path, row):
    """Return the tree with a row put beside the STOCK of a yard."""
    number_of(units, tree, path)
    need_row(units, row)
    stock, asks, under = yard_at(tree, path)
    return with_yard(tree, path, (plus(stock, row), asks, under))


def moved(units, tree, path, row):
    """Return the tree with whole pieces moved out of the STOCK of a yard into that of the yard above it."""
    _need_below_root(units, tree, path)
    need_row(units, row)
    stock, asks, under = yard_at(tree, path)
    if not nowhere_greater(row, stock):
        raise BadParameter(row)
    lessened = with_yard(tree, path, (minus(stock, row), asks, under))
    return stocked(units, lessened, path[:-2], row)


def closed(units, tree, path):
    """Return the tree without a yard, all that it has now being had by the yard above it."""
    _need_below_root(units, tree, path)
    stock, asks, under = yard_at(tree, path)
    index = path[-1]
    above_stock, above_asks, beside = yard_at(tree, path[:-2])
    kept = (*beside[:index], *under, *beside[index + 1:])
    return with_yard(tree, path[:-2], (plus(above_stock, stock), plus(above_asks, asks), kept))


def asks_apart(units, one, other):
    """Return asks, a row for each yard, that just one of two trees of one shape serves."""
    of_one = yards_met(units, one)
    of_other = yards_met(units, other)
    # As long as all yards ahead have alike many under them, both walks meet the same path at once.
    for (path, yard), (_, like) in zip(of_one, of_other):
        if len(yard[2]) != len(like[2]):
            raise Unlike(path)
    stocks = tuple([yard[0] for _, yard in of_one])
    others = tuple([yard[0] for _, yard in of_other])
    if stocks == others:
        raise NoRow()
    return others if _serves(units, other, stocks) else stocks


def _need_below_root(units, tree, path):
    number_of(units, tree, path)
    if not path:
        raise BadIndex(())


def _serves(units, tree, asks):
    """Return whether a tree would serve these asks in the place of its own."""
    yards = [(above, stock, ask) for (above, stock, _), ask in zip(flat_yards(units, tree), asks)]
    return not any(root_need(units, yard_gaps(units, yards)))
