"""Trees of yards for the tests, and plain searches through all ways to serve them."""

import itertools
import random

from tests.tools import add, lies_within, rows_to, swapped
from tests.wrongs import zero_row


def yards_of(tree, path=()):
    """The pairs of a path and a yard, each yard ahead of those under it."""
    found = [(path, tree)]
    for index, yard in enumerate(tree[2]):
        found += yards_of(yard, path + (2, index))
    return found


def paths_of(tree):
    return [path for path, _ in yards_of(tree)]


def chain_of(path):
    """The paths of a yard and of all yards above it."""
    return [path[:end] for end in range(len(path), -1, -2)]


def under_of(tree, path):
    return [other for other in paths_of(tree) if other != () and other[:-2] == path]


def pieces_of(row):
    return [unit for unit, many in enumerate(row) for _ in range(many)]


def is_plainly_served(units, tree):
    """Whether each asked piece can be served out of its own yard or one above it, by trying all ways to part them."""
    yards = dict(yards_of(tree))
    asked = [(unit, path) for path, (_, asks, _) in yards.items() for unit in pieces_of(asks)]
    # It means nothing which one of several like pieces is served out of which yard.
    ways = []
    for (unit, path), many in sorted({one: asked.count(one) for one in asked}.items()):
        servers = itertools.combinations_with_replacement(chain_of(path), many)
        ways.append([[(server, unit) for server in one] for one in servers])
    for way in itertools.product(*ways):
        loads = {path: zero_row(units) for path in yards}
        for server, unit in itertools.chain(*way):
            loads[server] = add(loads[server], swapped(zero_row(units), unit, 1))
        if all(lies_within(units, loads[path], yards[path][0]) for path in yards):
            return True
    return False


def is_plain_sending(units, tree, rows):
    """Whether rows that yards are sent, told in the order of the walk, let each of them serve what it has to."""
    sent = dict(zip(paths_of(tree), rows))
    if any(sent[()]):
        return False
    for path, (stock, asks, _) in yards_of(tree):
        asked = add(asks, *[sent[other] for other in under_of(tree, path)])
        if not lies_within(units, asked, add(stock, sent[path])):
            return False
    return True


def small_sendings(units, tree, most):
    """All tuples of small rows that the yards under the root could be sent."""
    rows = rows_to(units, most)
    for sent in itertools.product(*[rows for _ in paths_of(tree)[1:]]):
        yield (zero_row(units), *sent)


def changed(tree, path, stock, asks):
    """The tree with rows put beside the STOCK and the ASKS of a yard."""
    if path == ():
        return (add(tree[0], stock), add(tree[1], asks), tree[2])
    return (tree[0], tree[1], swapped(tree[2], path[1], changed(tree[2][path[1]], path[2:], stock, asks)))


def with_stock(units, tree, path, row):
    return changed(tree, path, row, zero_row(units))


def with_asks(units, tree, path, row):
    return changed(tree, path, zero_row(units), row)


def some_tree(chance, shape, stocks, asks):
    """A tree of a shape, which is a tuple of the shapes under it, with chosen rows."""
    return (chance.choice(stocks), chance.choice(asks), tuple(some_tree(chance, part, stocks, asks) for part in shape))


# One yard, two, three in a line, two and three under a root, four in two lines.
SHAPES = ((), ((),), (((),),), ((), ()), ((), (), ()), (((),), ()))


def trees_for(units, many, seed=1, shapes=SHAPES):
    """Chosen small trees, some of which are served."""
    chance = random.Random(seed)
    stocks = rows_to(units, 5)
    asks = rows_to(units, 3)
    for number in range(many):
        yield some_tree(chance, shapes[number % len(shapes)], stocks, asks)


def line_of(yards):
    """A tree of yards, each directly under the one ahead of it."""
    tree = None
    for stock, asks in reversed(yards):
        tree = (stock, asks, () if tree is None else (tree,))
    return tree
