"""A yard led: what a house lets and refuses, deeds in a row, taken back and copied: points 70 and 71."""

import itertools
import random
import unittest

from stairyard.errors import BadDeed, BadIndex, BadParameter, NothingBack, TooGreat, Unlike, YardError
from stairyard.house import House
from stairyard.reshaped import asked_more, closed, moved, stocked
from stairyard.spares import least_added, spare
from stairyard.yards import is_served, needs, yard_paths
from tests.tools import PAPERS, STRAY, Alike, YardCase, add, lies_within, rows_to, take, wrong_row, wrong_units
from tests.wrongs import sample_tree, wrong_path, wrong_tree, zero_row

FAR = 10 ** 60
# The tree of the document's example: a yard that lacks a small piece, which the root has.
TREE = ((0, 1), (0, 0), (((1, 0), (0, 3), ()),))
WORDS = ("ask", "back", "bring", "take", "move")


def part_at(tree, path):
    for index in path[1::2]:
        tree = tree[2][index]
    return tree


def with_part(tree, path, part):
    if not path:
        return part
    under = list(tree[2])
    under[path[1]] = with_part(under[path[1]], path[2:], part)
    return (tree[0], tree[1], tuple(under))


def plain_behind(units, tree, deed):
    """The tree behind a deed, or the name of the error and what it tells."""
    word, path = deed[:2]
    if path not in yard_paths(units, tree) or word in ("move", "close") and not path:
        return "BadIndex", path
    stock, asks, under = part_at(tree, path)
    if word == "close":
        return "done", closed(units, tree, path)
    row = deed[2]
    whole = {"back": asks, "take": stock, "move": stock}.get(word)
    if whole is not None and min(take(whole, row)) < 0:
        return "BadParameter", row
    if word == "ask":
        made = with_part(tree, path, (stock, add(asks, row), under))
    elif word == "back":
        made = with_part(tree, path, (stock, take(asks, row), under))
    elif word == "bring":
        made = with_part(tree, path, (add(stock, row), asks, under))
    elif word == "take":
        made = with_part(tree, path, (take(stock, row), asks, under))
    else:
        made = moved(units, tree, path, row)
    if most_in(made) > FAR:
        return "TooGreat", FAR
    if word == "ask" and not lies_within(units, row, spare(units, tree, path)):
        return "Unlike", least_added(units, made, path)
    if word == "take" and not is_served(units, made):
        return "Unlike", needs(units, made)[0]
    return "done", made


def most_in(tree):
    return max([*tree[0], *tree[1], *map(most_in, tree[2])])


def some_tree(chance, units):
    """A served tree of up to four yards."""
    rows = rows_to(units, 5)
    while True:
        tree = (chance.choice(rows), chance.choice(rows[:3]), ())
        for _ in range(chance.randrange(4)):
            path = chance.choice(yard_paths(units, tree))
            part = part_at(tree, path)
            leaf = (chance.choice(rows), chance.choice(rows), ())
            tree = with_part(tree, path, (part[0], part[1], (*part[2], leaf)))
        if is_served(units, tree):
            return tree


def some_deed(chance, units, tree):
    paths = [*yard_paths(units, tree), (2, 5), (2, 0, 2)]
    word = chance.choice((*WORDS, *WORDS, "close"))
    path = chance.choice(paths)
    return (word, path) if word == "close" else (word, path, chance.choice(rows_to(units, 4)))


def wrong_deeds(units):
    row = zero_row(units)
    yield from STRAY
    yield from ((), ("ask",), ("ask", ()), ("ask", (), row, 0), ["ask", (), row], ("Ask", (), row), (b"ask", (), row))
    yield from (("close", (), row), ("close",), ["close", ()], ("closes", ()), (Alike(), (), row), Alike(), ("move", ()))
    yield from ((None, (), row), ("pass",), ("do", (), row), ("ask", row), ("close", row, row), "close", ("undo",))
    for path in (None, [2, 0], 0, "20", (True,), (2, False), (-1,), ("2", 0), (2, None), ((2, 0),), Alike(), {}, range(2),
                 (2, Alike())):
        yield from ((word, path, row) for word in WORDS)
        yield ("close", path)
    for wrong, _, _ in wrong_row(units):
        yield from ((word, (), wrong) for word in WORDS)


class Made(YardCase):
    def test_attributes(self):
        house = House((2,), TREE)
        self.assertEqual(house.units, (2,))
        self.assertEqual(house.tree(), TREE)
        self.assertEqual(house.needs(), ((0, 0), (0, 1)))
        self.assertEqual(house.spare(()), (0, 0))
        self.assertEqual(house.spare((2, 0)), (0, 0))
        self.assertEqual((len(house), list(house), house.log()), (0, [], ()))
        self.assertEqual(House(units=(2,), tree=TREE), house)

    def test_trees_that_are_not_served(self):
        for units, tree in (((2,), ((0, 1), (0, 0), (((1, 0), (0, 4), ()),))), ((2,), ((0, 0), (1, 1), ())),
                            ((), ((3,), (5,), ())), ((2, 3), ((0, 1, 0), (0, 0, 4), ()))):
            self.raises(Unlike, {"value": needs(units, tree)[0]}, House, units, tree)

    def test_wrong(self):
        for units in ((), (2,), (2, 3)):
            tree = sample_tree(units)
            for value, error, told in wrong_units():
                self.raises(error, told, House, value, tree)
                self.raises(error, told, House, value, None)
            for value, error, told in wrong_tree(units):
                self.raises(error, told, House, units, value)
            house = House(units, tree)
            for value, error, told in wrong_path(units):
                self.raises(error, told, house.spare, value)
            for path in yard_paths(units, tree):
                self.assertEqual(house.spare(path), spare(units, tree, path))

    def test_equal_houses(self):
        house, other = House((2,), TREE), House((2,), TREE)
        self.assertTrue(house == other)
        self.assertFalse(house != other)
        other.do(("bring", (), (0, 1)))
        self.assertFalse(house == other)
        other.do(("take", (), (0, 1)))
        # The tree is the same again; how it has come about does not matter.
        self.assertTrue(house == other)
        self.assertNotEqual(len(house), len(other))
        self.assertFalse(House((2,), ((1, 0), (0, 0), ())) == House((3,), ((1, 0), (0, 0), ())))
        for value in (*PAPERS, TREE, (2,)):
            self.assertFalse(house == value)
            self.assertTrue(house != value)


class Deeds(YardCase):
    def refused(self, house, error, told, deed):
        """Assert that a deed is refused, alone and among others, and that nothing has changed."""
        before = (house.tree(), house.log(), len(house))
        calm = ("bring", (), zero_row(house.units))
        self.raises(error, told, house.do, deed)
        self.raises(error, told, house.follow, (deed,))
        self.raises(error, told, house.follow, (calm, calm, deed, calm))
        self.assertEqual(house.trial((deed, calm)), (0, house.tree()))
        self.assertEqual(house.trial((calm, deed, calm)), (1, house.tree()))
        self.assertEqual((house.tree(), house.log(), len(house)), before)

    def test_each_refusal(self):
        house = House((2,), TREE)
        self.refused(house, BadIndex, {"value": (2, 1)}, ("ask", (2, 1), (0, 0)))
        self.refused(house, BadIndex, {"value": (2, 0, 2)}, ("back", (2, 0, 2), (9, 9)))
        self.refused(house, BadIndex, {"value": (0,)}, ("bring", (0,), (FAR, FAR)))
        self.refused(house, BadIndex, {"value": (1, 0)}, ("take", (1, 0), (9, 9)))
        self.refused(house, BadIndex, {"value": ()}, ("move", (), (9, 9)))
        self.refused(house, BadIndex, {"value": ()}, ("close", ()))
        self.refused(house, BadIndex, {"value": (2, 5)}, ("move", (2, 5), (9, 9)))
        self.refused(house, BadIndex, {"value": (2, 5)}, ("close", (2, 5)))
        self.refused(house, BadParameter, {"value": (0, 4)}, ("back", (2, 0), (0, 4)))
        self.refused(house, BadParameter, {"value": (1, 0)}, ("back", (2, 0), (1, 0)))
        self.refused(house, BadParameter, {"value": (0, 2)}, ("take", (), (0, 2)))
        # A large piece is worth two small ones, but none of these is there.
        self.refused(house, BadParameter, {"value": (0, 2)}, ("take", (2, 0), (0, 2)))
        self.refused(house, BadParameter, {"value": (0, 2)}, ("move", (2, 0), (0, 2)))
        self.refused(house, TooGreat, {"most": FAR}, ("bring", (), (0, FAR)))
        self.refused(house, TooGreat, {"most": FAR}, ("ask", (2, 0), (0, FAR)))
        self.refused(house, Unlike, {"value": (0, 1)}, ("ask", (2, 0), (0, 1)))
        self.refused(house, Unlike, {"value": (1, 0)}, ("ask", (), (1, 0)))
        self.refused(house, Unlike, {"value": (0, 1)}, ("take", (), (0, 1)))
        self.refused(house, Unlike, {"value": (0, 2)}, ("take", (2, 0), (1, 0)))

    def test_numbers_beyond_the_bound(self):
        house = House((2,), ((FAR, FAR), (0, 0), (((1, 1), (0, 0), ()),)))
        for deed in (("bring", (), (0, 1)), ("bring", (), (1, 0)), ("move", (2, 0), (1, 0)), ("move", (2, 0), (0, 1)),
                     ("close", (2, 0))):
            self.refused(house, TooGreat, {"most": FAR}, deed)
        house.do(("ask", (), (FAR, 0)))
        # This is more than there is, too, but the number counts first.
        self.refused(house, TooGreat, {"most": FAR}, ("ask", (), (1, 10 ** 60)))
        house.do(("take", (), (0, FAR)))
        self.refused(house, TooGreat, {"most": FAR}, ("close", (2, 0)))
        house.do(("move", (2, 0), (0, 1)))
        self.assertEqual(house.tree(), ((FAR, 1), (FAR, 0), (((1, 0), (0, 0), ()),)))

    def test_each_deed(self):
        house = House((2,), TREE)
        house.do(("bring", (), (1, 0)))
        self.assertEqual(house.tree(), ((1, 1), (0, 0), (((1, 0), (0, 3), ()),)))
        house.do(("ask", (2, 0), (0, 2)))
        self.assertEqual(house.tree(), ((1, 1), (0, 0), (((1, 0), (0, 5), ()),)))
        house.do(("back", (2, 0), (0, 3)))
        self.assertEqual(house.tree(), ((1, 1), (0, 0), (((1, 0), (0, 2), ()),)))
        house.do(("move", (2, 0), (1, 0)))
        self.assertEqual(house.tree(), ((2, 1), (0, 0), (((0, 0), (0, 2), ()),)))
        house.do(("take", (), (1, 1)))
        self.assertEqual(house.tree(), ((1, 0), (0, 0), (((0, 0), (0, 2), ()),)))
        house.do(("close", (2, 0)))
        self.assertEqual(house.tree(), ((1, 0), (0, 2), ()))
        self.assertEqual([deed[0] for deed in house], ["bring", "ask", "back", "move", "take", "close"])
        self.assertEqual(len(house), 6)
        for _ in range(6):
            self.assertIsNone(house.undo())
        self.assertEqual(house.tree(), TREE)
        self.assertEqual((len(house), house.log()), (0, ()))
        self.raises(NothingBack, {}, house.undo)
        self.assertEqual(house.tree(), TREE)

    def test_what_is_done_returns_nothing(self):
        house = House((2,), TREE)
        self.assertIsNone(house.do(("bring", (), (0, 0))))
        self.assertIsNone(house.follow(()))
        self.assertIsNone(house.follow((("bring", (), (0, 0)),) * 2))
        self.assertIsNone(house.undo())
        self.assertEqual(len(house), 2)

    def test_chosen_deeds(self):
        chance = random.Random(70)
        seen = {}
        for number in range(150):
            units = ((), (2,), (3,), (2, 3), (2, 2, 2))[number % 5]
            tree = some_tree(chance, units)
            house = House(units, tree)
            trees, log = [tree], []
            for _ in range(12):
                deed = some_deed(chance, units, trees[-1])
                word, told = plain_behind(units, trees[-1], deed)
                seen[deed[0], word] = True
                with self.subTest(units=units, tree=trees[-1], deed=deed):
                    if word == "done":
                        self.assertEqual(house.trial((deed,)), (1, told))
                        house.do(deed)
                        trees.append(told)
                        log.append(deed)
                    else:
                        error = {"BadIndex": BadIndex, "BadParameter": BadParameter, "Unlike": Unlike}[word]
                        self.refused(house, error, {"value": told}, deed)
                    self.assertEqual(house.tree(), trees[-1])
                    self.assertEqual(house.log(), tuple(log))
                    self.assertTrue(is_served(units, house.tree()))
                    self.assertEqual(house.needs(), needs(units, trees[-1]))
            while log:
                self.assertEqual((house.tree(), list(house), len(house)), (trees.pop(), log, len(log)))
                log.pop()
                house.undo()
            self.assertEqual(house.tree(), tree)
        self.assertEqual({word for word, told in seen if told == "done"}, {*WORDS, "close"})
        self.assertLessEqual({("ask", "Unlike"), ("take", "Unlike"), ("back", "BadParameter"), ("move", "BadIndex")}, set(seen))

    def test_an_ask_is_let_exactly_within_the_spare(self):
        chance = random.Random(71)
        for number in range(60):
            units = ((), (2,), (2, 3))[number % 3]
            tree = some_tree(chance, units)
            for path in yard_paths(units, tree):
                for row in rows_to(units, 5):
                    house = House(units, tree)
                    made = asked_more(units, tree, path, row)
                    if is_served(units, made):
                        house.do(("ask", path, row))
                        self.assertEqual(house.tree(), made)
                    else:
                        least = least_added(units, made, path)
                        self.raises(Unlike, {"value": least}, house.do, ("ask", path, row))
                        house.follow((("bring", path, least), ("ask", path, row)))
                        self.assertTrue(is_served(units, house.tree()))

    def test_asks_in_any_order(self):
        chance = random.Random(72)
        for number in range(60):
            units = ((2,), (2, 3), (2, 2))[number % 3]
            tree = some_tree(chance, units)
            asks = tuple(("ask", chance.choice(yard_paths(units, tree)), chance.choice(rows_to(units, 2)))
                         for _ in range(4))
            done, _ = House(units, tree).trial(asks)
            trees = set()
            for order in itertools.permutations(asks[:done]):
                house = House(units, tree)
                house.follow(order)
                trees.add(house.tree())
            self.assertEqual(len(trees), 1)

    def test_what_the_root_let_it_lets_behind_a_move_or_a_close(self):
        chance = random.Random(73)
        for number in range(60):
            units = ((2,), (2, 3), (2, 2))[number % 3]
            tree = some_tree(chance, units)
            house = House(units, tree)
            over = house.spare(())
            for path in yard_paths(units, tree)[1:]:
                for deed in (("close", path), ("move", path, part_at(tree, path)[0])):
                    other = house.copy()
                    other.do(deed)
                    self.assertTrue(lies_within(units, over, other.spare(())))
                    other.do(("ask", (), over))

    def test_wrong_deeds(self):
        for units in ((), (2,), (2, 3)):
            house = House(units, sample_tree(units))
            calm = ("bring", (), zero_row(units))
            bad = ("bring", (2, 9), zero_row(units))
            for deed in wrong_deeds(units):
                with self.subTest(units=units, deed=deed):
                    self.raises(BadDeed, {"place": 0}, house.do, deed)
                    for function in (house.follow, house.trial):
                        self.raises(BadDeed, {"place": 0}, function, (deed, None))
                        # All are looked at ahead of the first one that is refused.
                        self.raises(BadDeed, {"place": 3}, function, (calm, bad, calm, deed, None))
            for value in (*STRAY, [], [calm], Alike(), range(0)):
                for function in (house.follow, house.trial):
                    self.raises(BadDeed, {"place": 0}, function, value)
            for function in (house.follow, house.trial):
                self.raises(BadDeed, {"place": 60}, function, (calm,) * 61)
                self.raises(BadDeed, {"place": 60}, function, (None,) * 61)
                self.raises(BadDeed, {"place": 59}, function, (calm,) * 59 + (None,))
            self.assertEqual((house.tree(), len(house)), (sample_tree(units), 0))
            house.follow((calm,) * 60)
            self.assertEqual(len(house), 60)
            house.follow((calm,) * 60)
            self.assertEqual(len(house), 120)
            self.assertEqual(house.log(), (calm,) * 120)
            self.assertEqual(house.trial((calm,) * 60), (60, house.tree()))

    def test_all_or_none(self):
        house = House((2,), ((2, 0), (0, 0), (((0, 0), (0, 0), ()),)))
        good = (("ask", (2, 0), (0, 3)), ("ask", (), (0, 1)))
        house.follow(good)
        self.assertEqual(house.log(), good)
        house.undo()
        house.undo()
        more = (*good, ("ask", (), (0, 1)), ("close", ()))
        self.raises(Unlike, {"value": (0, 1)}, house.follow, more)
        self.assertEqual((house.tree(), len(house)), (((2, 0), (0, 0), (((0, 0), (0, 0), ()),)), 0))
        self.assertEqual(house.trial(more), (2, ((2, 0), (0, 1), (((0, 0), (0, 3), ()),))))
        self.assertEqual(house.trial(()), (0, house.tree()))
        self.assertEqual((len(house), house.log()), (0, ()))


class Copies(YardCase):
    def test_copies_go_their_own_way(self):
        house = House((2,), TREE)
        house.do(("bring", (), (1, 0)))
        other = house.copy()
        self.assertEqual(other, house)
        self.assertEqual(other.log(), house.log())
        other.do(("bring", (), (0, 1)))
        house.do(("ask", (), (1, 0)))
        self.assertEqual(house.tree(), ((1, 1), (1, 0), (((1, 0), (0, 3), ()),)))
        self.assertEqual(other.tree(), ((1, 2), (0, 0), (((1, 0), (0, 3), ()),)))
        self.assertEqual((len(house), len(other)), (2, 2))
        other.undo()
        other.undo()
        self.assertEqual((other.tree(), len(other)), (TREE, 0))
        self.assertRaises(NothingBack, other.undo)
        self.assertEqual(len(house), 2)
        house.undo()
        house.undo()
        self.assertEqual(house.tree(), TREE)
        self.assertEqual(other, house)

    def test_logs_and_iteration_are_of_their_time(self):
        house = House((2,), TREE)
        deed = ("bring", (), (0, 1))
        house.follow((deed,) * 3)
        log, going = house.log(), iter(house)
        house.undo()
        self.assertEqual(log, (deed,) * 3)
        self.assertEqual(house.log(), (deed,) * 2)
        self.assertEqual(len(list(going)), 3)
        self.assertEqual(stocked((2,), TREE, (), (0, 2)), house.tree())
        self.assertEqual([*house], [deed] * 2)
        self.assertIn(deed, house)
        self.assertRaises(YardError, house.do, None)


if __name__ == "__main__":
    unittest.main()
