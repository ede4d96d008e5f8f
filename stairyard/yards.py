"""Yards in trees: what each of them needs, what it may be sent, and papers that a tree is not served."""

from stairyard.errors import BadIndex, BadTree, NoRow
from stairyard.plain import is_from, is_great_row, is_row, is_tuple_of, is_whole, minus, plus, row_made, rows_made
from stairyard.plain import stair_made, up_made, walk_parts, zeros
from stairyard.units import need_units, sizes


def need_tree(units, value):
    """Return a tree (STOCK, ASKS, UNDER) of at most 8 yards."""
    yards_met(units, value)
    return value


def yard_paths(units, tree):
    """Return the paths of all yards, the root's first, each ahead of those of the yards under it."""
    return tuple([path for path, _ in yards_met(units, tree)])


def needs(units, tree):
    """Return what each yard lacks for its ASKS and for the needs of the yards directly under it."""
    gaps = yard_gaps(units, flat_yards(units, tree))
    return rows_made(units, [up_made(units, gap) for gap in gaps])


def is_served(units, tree):
    """Return whether all asks of a tree can be served."""
    return needs(units, tree)[0] == zeros(units)


def is_sending(units, tree, value):
    """Return whether a value has a row for each yard with which, sent from above, all of them serve their asks."""
    yards = flat_yards(units, tree)
    if not is_tuple_of(value, len(yards)) or not all([is_great_row(units, row) for row in value]):
        return False
    if value[0] != zeros(units):
        return False
    over = [stair_made(units, minus(plus(stock, sent), asks)) for (_, stock, asks), sent in zip(yards, value)]
    for number in range(1, len(yards)):
        above = yards[number][0]
        over[above] = minus(over[above], stair_made(units, value[number]))
    return all([min(numbers) >= 0 for numbers in over])


def lack_paper(units, tree):
    """Return a paper that a tree is not served: for each yard a unit at which its gap counts, or None."""
    yards = flat_yards(units, tree)
    gaps = yard_gaps(units, yards)
    if not any(up_made(units, gaps[0])):
        raise NoRow()
    paper = []
    for (above, _, _), gap in zip(yards, gaps):
        most = len(units) if above is None else paper[above]
        paper.append(_widest_gap(units, gap, most))
    return tuple(paper)


def is_lack_paper(units, tree, value):
    """Return whether a value shows that a tree is not served."""
    yards = flat_yards(units, tree)
    if not is_tuple_of(value, len(yards)) or value[0] is None:
        return False
    size = sizes(units)
    together = 0
    for unit, (above, stock, asks) in zip(value, yards):
        if unit is not None:
            most = len(units) if above is None else value[above]
            if most is None or not is_whole(unit, 0, most):
                return False
            together = together + size[unit] * (stair_made(units, asks)[unit] - stair_made(units, stock)[unit])
    return together > 0


def yards_met(units, tree):
    """Return the pairs of a path and of the yard that has it, in the order of the walk; check the tree."""
    need_units(units)
    return walk_parts(tree, 8, 8, lambda path, part: _yards_under(units, path, part))


def flat_yards(units, tree):
    """Return (ABOVE, STOCK, ASKS) for each yard in the order of the walk; check the tree.

    ABOVE is the number of the yard directly above in this order, None for the root.
    """
    met = yards_met(units, tree)
    paths = [path for path, _ in met]
    return [(paths.index(path[:-2]) if path else None, stock, asks) for path, (stock, asks, _) in met]


def yard_gaps(units, yards):
    """Return, for each yard, the stair of its ASKS and of the needs directly under it, less that of its STOCK.

    What is below 0 in it is over; UP of it is the stair of the yard's need.
    """
    gaps = [minus(stair_made(units, asks), stair_made(units, stock)) for _, stock, asks in yards]
    # Yards stand behind the one above them in the walk: backwards each gap is whole when its turn comes.
    for number in reversed(range(1, len(yards))):
        above = yards[number][0]
        gaps[above] = plus(gaps[above], up_made(units, gaps[number]))
    return gaps


def root_need(units, gaps):
    """Return the row that the root of the tree with these gaps needs."""
    return row_made(units, up_made(units, gaps[0]))


def number_of(units, tree, path):
    """Return the number, in the order of the walk, of the yard with this path; check the tree and the path."""
    paths = yard_paths(units, tree)
    # An index True is no index, though it equals 1.
    if not isinstance(path, tuple) or not all([is_from(index, 0) for index in path]) or path not in paths:
        raise BadIndex(path)
    return paths.index(path)


def yard_at(tree, path):
    """Return the yard with this path."""
    for index in path[1::2]:
        tree = tree[2][index]
    return tree


def with_yard(tree, path, yard):
    """Return the tree with a yard in the place of the one with this path, and of all under this one."""
    if not path:
        return yard
    stock, asks, under = tree
    index = path[1]
    return (stock, asks, (*under[:index], with_yard(under[index], path[2:], yard), *under[index + 1:]))


def _yards_under(units, path, value):
    """Return the yards directly under a yard and their indexes."""
    if not is_tuple_of(value, 3):
        raise BadTree(path)
    stock, asks, under = value
    if not is_row(units, stock) or not is_row(units, asks) or not isinstance(under, tuple):
        raise BadTree(path)
    return [((2, index), yard) for index, yard in enumerate(under)]


def _widest_gap(units, gap, most):
    """Return the unit, with a number of at most `most`, whose gap makes most, None if none makes anything."""
    if most is None:
        return None
    made = [size * number for size, number in zip(sizes(units)[:most + 1], gap)]
    widest = max(made)
    return made.index(widest) if widest > 0 else None
