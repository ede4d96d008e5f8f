"""Rules in worlds: what is lost by a rule on the runs of a world, tables that nothing is, two rules compared."""

from stairyard.errors import NoRow, TooGreat, Unlike
from stairyard.plain import is_great_row, is_tuple_of, is_whole, plus
from stairyard.rows import need_row
from stairyard.rules import behind_order, best_rule, need_rule, rule_ways
from stairyard.worlds import is_step_from, need_world


def rule_loss(units, world, rule, stock):
    """Return the shortest walk whose last ask the rule alone refuses, the best rule serving all of its asks."""
    ways = _checked_ways(units, world, (rule,), stock)
    loss = _search(world, (*ways, rule_ways(units, best_rule(units))), stock, 1)[0][0]
    if loss is None:
        raise NoRow()
    return loss


def is_rule_loss(units, world, rule, stock, value):
    """Return whether a value is a walk whose last ask the rule alone refuses."""
    ways = _checked_ways(units, world, (rule,), stock)[0]
    if not isinstance(value, tuple) or not value:
        return False
    best = rule_ways(units, best_rule(units))
    place, by_rule, by_best = (0, stock, stock)
    for index in value:
        # Nothing may come behind the step that is refused.
        if by_rule is None or not is_step_from(world, place, index):
            return False
        _, deed, place = world[1][index]
        by_rule = _behind(ways, by_rule, deed)
        by_best = _behind(best, by_best, deed)
        if by_best is None:
            return False
    return by_rule is None


def rule_table(units, world, rule, stock):
    """Return all triples of a place and of what the rule and the best rule have left that are met without a loss."""
    ways = _checked_ways(units, world, (rule,), stock)
    walks, met = _search(world, (*ways, rule_ways(units, best_rule(units))), stock, 1)
    if walks[0] is not None:
        raise Unlike(walks[0])
    return tuple(sorted(met))


def is_rule_table(units, world, rule, stock, value):
    """Return whether a value has triples from which no step leads to a loss or to a triple that it lacks."""
    ways = _checked_ways(units, world, (rule,), stock)[0]
    if not isinstance(value, tuple) or len(value) > 2000:
        return False
    if not all([_is_triple(units, world, triple) for triple in value]):
        return False
    best = rule_ways(units, best_rule(units))
    there = {triple: True for triple in value}
    if (0, stock, stock) not in there:
        return False
    for place, by_rule, by_best in value:
        for source, deed, to in world[1]:
            if source == place:
                left = _behind(best, by_best, deed)
                if left is not None and (to, _behind(ways, by_rule, deed), left) not in there:
                    return False
    return True


def rules_compared(units, world, one, other, stock):
    """Return the shortest walks whose last ask the one, or the other, of two rules alone refuses; None for none."""
    return _search(world, _checked_ways(units, world, (one, other), stock), stock, 2)[0]


def _checked_ways(units, world, rules, stock):
    """Check the parameters and the asks of the world; return the ways of the rules."""
    need_world(units, world)
    for rule in rules:
        need_rule(units, rule)
    need_row(units, stock)
    if any([deed[0] == "ask" and sum(deed[1]) > 1000 for _, deed, _ in world[1]]):
        raise TooGreat(1000)
    return tuple([rule_ways(units, rule) for rule in rules])


def _is_triple(units, world, value):
    if not is_tuple_of(value, 3) or not is_whole(value[0], 0, world[0] - 1):
        return False
    return is_great_row(units, value[1]) and is_great_row(units, value[2])


def _behind(ways, row, deed):
    """Return what a rule has left behind a deed, None behind an ask that it refuses."""
    if deed[0] == "pass":
        return row
    return plus(row, deed[1]) if deed[0] == "bring" else behind_order(ways, row, deed[1])


def _search(world, both_ways, stock, enough):
    """Return two walks, whose last ask the first or the second of two rules alone refuses, and all triples met.

    A walk is None if there is none; the search ends as soon as it has found `enough` of them.
    """
    met = [(0, stock, stock)]
    # For each triple met: the index in `met` of the one ahead of it, and the step that leads from there.
    origins = {met[0]: (None, None)}
    walks = [None, None]
    at = 0
    while at < len(met):
        place, one, other = met[at]
        for index, (source, deed, to) in enumerate(world[1]):
            if source == place:
                behind = (to, _behind(both_ways[0], one, deed), _behind(both_ways[1], other, deed))
                if None not in behind:
                    _meet(met, origins, behind, (at, index))
                elif behind[1] != behind[2]:
                    _keep_walk(walks, 0 if behind[1] is None else 1, met, origins, (at, index))
                    if walks.count(None) == 2 - enough:
                        return (tuple(walks), met)
        at = at + 1
    return (tuple(walks), met)


def _meet(met, origins, triple, origin):
    if triple not in origins:
        if len(met) == 2000:
            raise TooGreat(2000)
        origins[triple] = origin
        met.append(triple)


def _keep_walk(walks, which, met, origins, origin):
    """Keep the walk that comes of this step, unless one was found ahead."""
    if walks[which] is None:
        steps = []
        at, index = origin
        while at is not None:
            steps.append(index)
            at, index = origins[met[at]]
        walks[which] = tuple(steps[::-1])
