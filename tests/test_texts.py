"""Rows, trees, plans, formulas and worlds written and read, and the first wrong word of a text: point 72."""

import itertools
import random
import unittest

from stairyard.errors import BadFormula, BadPlan, BadRow, BadText, BadTree, BadWorld, TooGreat, YardError
from stairyard.texts import (
    formula_text, plan_text, read_formula, read_plan, read_row, read_tree, read_world, row_text, tree_text, world_text)
from tests.runs import worlds_for
from tests.tools import STRAY, Alike, YardCase, rows_to, wrong_formula, wrong_row, wrong_units
from tests.trees import trees_for
from tests.wrongs import END, full_plan, wrong_plan, wrong_tree, wrong_world, zero_row

FAR = 10 ** 60
FORMS = {
    "row": (row_text, read_row), "tree": (tree_text, read_tree), "plan": (plan_text, read_plan),
    "formula": (formula_text, read_formula), "world": (world_text, read_world),
}
NUMBERS = ("0", "7", "10", "9" * 61, "1" + "0" * 60)
NO_NUMBERS = ("00", "01", "-1", "+1", "1.0", "1_0", "x", "0x1", "9" * 62, "\u0661", "\u00b2", "1\t", "\n", "1\n2", "", "1,")


class Ended(Exception):
    """The words end ahead of the form's end."""


class Wrong(Exception):
    """A word is not as told."""


class Descent:
    """The forms read word by word, as the document tells them."""

    def __init__(self, units, words):
        self.units, self.words, self.at = units, words, 0

    def peek(self):
        if self.at == len(self.words):
            raise Ended
        return self.words[self.at]

    def take(self, *told):
        if self.peek() not in told:
            raise Wrong
        self.at += 1
        return self.words[self.at - 1]

    def number(self):
        word = self.peek()
        if not word or set(word) - set("0123456789") or len(word) > 61 or word != str(int(word)):
            raise Wrong
        self.at += 1
        return int(word)

    def row(self):
        self.take("(")
        row = tuple(self.number() for _ in range(len(self.units) + 1))
        self.take(")")
        return row

    def tree(self):
        self.take("{")
        stock, asks, under = self.row(), self.row(), []
        while self.peek() != "}":
            under.append(self.tree())
        self.take("}")
        return stock, asks, tuple(under)

    def plan(self):
        word = self.take("end", "ask", "bring", "either", "ours")
        if word == "end":
            return END
        if word in ("ask", "bring"):
            return word, self.row(), self.plan()
        return word, self.plan(), self.plan()

    def formula(self):
        if self.peek() == "(":
            return "row", self.row()
        word = self.take("together", "any", "one")
        self.take("[")
        inner = []
        while self.peek() != "]":
            inner.append(self.formula())
        self.take("]")
        return word, tuple(inner)

    def world(self):
        self.take("places")
        places, steps = self.number(), []
        while self.at < len(self.words):
            self.take(";")
            source = self.number()
            word = self.take("ask", "bring", "pass")
            deed = (word,) if word == "pass" else (word, self.row())
            steps.append((source, deed, self.number()))
        return places, tuple(steps)

    def whole(self, form):
        """The value, or the number of the first word that is not as told."""
        try:
            value = getattr(self, form)()
        except (Ended, Wrong):
            return "bad", self.at
        return ("bad", self.at) if self.at < len(self.words) else ("good", value)


def some_formula(chance, rows, deep):
    if deep == 1 or chance.random() < 0.3:
        return "row", chance.choice(rows)
    return chance.choice(("together", "any", "one")), tuple(
        some_formula(chance, rows, deep - 1) for _ in range(chance.randrange(4)))


def some_plan(chance, rows, deep):
    word = chance.choice(("end", "ask", "ask", "bring", "either", "ours")) if deep > 1 else "end"
    if word == "end":
        return END
    if word in ("ask", "bring"):
        return word, chance.choice(rows), some_plan(chance, rows, deep - 1)
    return word, some_plan(chance, rows, deep - 1), some_plan(chance, rows, deep - 1)


def samples(units, seed):
    """Pairs of a form and of a value of it."""
    chance = random.Random(seed)
    rows = [*rows_to(units, 3), (FAR,) * (len(units) + 1)]
    for row in rows:
        yield "row", row
    for tree in list(trees_for(units, 12, seed)):
        yield "tree", tree
    for _ in range(12):
        yield "plan", some_plan(chance, rows, 5)
        yield "formula", some_formula(chance, rows, 3)
    for world in worlds_for(units, 12, seed):
        yield "world", world


class Written(YardCase):
    def test_example(self):
        tree = ((0, 1), (0, 0), (((1, 0), (0, 3), ()),))
        self.assertEqual(tree_text((2,), tree), "{ ( 0 1 ) ( 0 0 ) { ( 1 0 ) ( 0 3 ) } }")
        self.assertEqual(read_tree((2,), "{ ( 0 1 ) ( 0 0 ) { ( 1 0 ) ( 0 3 ) } }"), tree)

    def test_each_form(self):
        for form, value, text in (
                ("row", (0, 12), "( 0 12 )"), ("plan", END, "end"), ("plan", ("ask", (1, 0), END), "ask ( 1 0 ) end"),
                ("plan", ("either", ("bring", (0, 2), END), ("ours", END, END)), "either bring ( 0 2 ) end ours end end"),
                ("formula", ("row", (1, 0)), "( 1 0 )"), ("formula", ("one", ()), "one [ ]"),
                ("formula", ("any", (("row", (1, 0)), ("together", (("row", (0, 1)),)))),
                 "any [ ( 1 0 ) together [ ( 0 1 ) ] ]"),
                ("world", (1, ()), "places 1"),
                ("world", (2, ((0, ("ask", (0, 3)), 1), (1, ("pass",), 0), (1, ("bring", (1, 0)), 1))),
                 "places 2 ; 0 ask ( 0 3 ) 1 ; 1 pass 0 ; 1 bring ( 1 0 ) 1")):
            write, read = FORMS[form]
            with self.subTest(text=text):
                self.assertEqual(write((2,), value), text)
                self.assertEqual(read((2,), text), value)
        self.assertEqual(row_text((), (0,)), "( 0 )")
        self.assertEqual(row_text((2, 3, 4), (FAR, 0, 1, 2)), f"( {FAR} 0 1 2 )")

    def test_written_and_read_back(self):
        for units in ((), (2,), (2, 3), (2, 2, 2)):
            for form, value in samples(units, len(units)):
                write, read = FORMS[form]
                text = write(units, value)
                with self.subTest(units=units, text=text):
                    self.assertEqual(" ".join(text.split()), text)
                    self.assertEqual(Descent(units, text.split()).whole(form), ("good", value))
                    self.assertEqual(read(units, text), value)
                    self.made_of_tuples(read(units, text))
                    self.assertEqual(read(units, "   " + text.replace(" ", "    ") + "  "), value)

    def test_wrong(self):
        wrong = {"row": wrong_row, "tree": wrong_tree, "plan": wrong_plan, "formula": wrong_formula, "world": wrong_world}
        for form, (write, read) in FORMS.items():
            for units in ((), (2,), (2, 3)):
                for value, error, told in wrong_units():
                    self.raises(error, told, write, value, zero_row(units))
                    self.raises(error, told, write, value, None)
                    self.raises(error, told, read, value, "end")
                    self.raises(error, told, read, value, None)
                for value, error, told in wrong[form](units):
                    self.raises(error, told, write, units, value)
                for value in (*STRAY, (), ("end",), Alike(), ["( 0 )"], 7):
                    if not isinstance(value, str):
                        self.raises(BadText, {"line": 0, "word": 0}, read, units, value)


class Read(YardCase):
    def check_words(self, units, form, words):
        """Assert what is read of some words, or which of them is told as the first wrong one."""
        word, told = Descent(units, words).whole(form)
        read = FORMS[form][1]
        with self.subTest(units=units, form=form, words=words):
            if word == "bad":
                self.raises(BadText, {"line": 0, "word": told}, read, units, " ".join(words))
            else:
                try:
                    self.assertEqual(read(units, " ".join(words)), told)
                except YardError as error:
                    self.assertNotIsInstance(error, BadText)
                    self.assertRaises(error.__class__, FORMS[form][0], units, told)

    def test_all_short_texts(self):
        words = ("(", ")", "{", "}", "[", "]", ";", "0", "01", "end", "ask", "either", "one", "places", "pass", "x")
        for form in FORMS:
            self.check_words((), form, [])
            for many in (1, 2, 3):
                for told in itertools.product(words, repeat=many):
                    self.check_words((), form, list(told))

    def test_cut_short_and_changed(self):
        others = ("(", ")", "{", "}", "[", "]", ";", "0", "00", "end", "ask", "pass", "together", "places", "row", "-1")
        for units in ((), (2,), (2, 3)):
            for form, value in list(samples(units, 7))[::2]:
                words = FORMS[form][0](units, value).split()
                if len(words) > 60:
                    continue
                for at in range(len(words)):
                    self.check_words(units, form, words[:at])
                    self.check_words(units, form, words[:at] + words[at + 1:])
                    for other in others:
                        self.check_words(units, form, [*words[:at], other, *words[at + 1:]])
                for other in others:
                    self.check_words(units, form, [*words, other])

    def test_numbers(self):
        for number in NUMBERS:
            if int(number) <= FAR:
                self.assertEqual(read_row((), f"( {number} )"), (int(number),))
            else:
                self.raises(BadRow, {"value": (int(number),)}, read_row, (), f"( {number} )")
            self.check_words((), "row", ["(", number, ")"])
        for number in NO_NUMBERS:
            self.raises(BadText, {"line": 0, "word": 1}, read_row, (), f"( {number} )")
            self.raises(BadText, {"line": 0, "word": 1}, read_world, (), f"places {number} )")
        self.raises(BadRow, {"value": (FAR + 1,)}, read_row, (), f"( {FAR + 1} )")
        self.raises(BadText, {"line": 0, "word": 1}, read_row, (), f"( {FAR * 10} )")
        self.assertEqual(len(str(FAR)), 61)

    def test_blanks(self):
        self.assertEqual(read_row((2,), "   (  1    0 )  "), (1, 0))
        for text, word in (("(\t1 0 )", 0), ("( 1\n0 )", 1), ("( 1 0 )\n", 3), ("\n( 1 0 )", 0), ("( 1 0 )\r", 3), ("(1 0 )", 0),
                           ("( 1\u00a00 )", 1), ("( 1 0 ) \t", 4), ("", 0), ("   ", 0), ("( 1 0", 3), ("( 1 0 ) )", 4),
                           ("( 1 )", 2), ("( 1 0 0 )", 3), ("( )", 1), (")", 0), ("( 1 0 ) ( 1 0 )", 4)):
            self.raises(BadText, {"line": 0, "word": word}, read_row, (2,), text)

    def test_too_many_words(self):
        ask = "ask ( 0 ) "
        good = ask * 12 + "end"
        self.assertEqual(read_plan((), good), plan_of_asks(12))
        for text, words in ((ask * 99 + "ask ( 0 )", 400), ("either " * 400, 400), ("ours " * 399 + "end", 400)):
            self.assertEqual(len(text.split()), words)
            self.raises(BadText, {"line": 0, "word": 400}, read_plan, (), text)
            self.raises(TooGreat, {"most": 400}, read_plan, (), text + " end")
            self.raises(TooGreat, {"most": 400}, read_plan, (), text + " what")
            self.raises(BadText, {"line": 0, "word": 399}, read_plan, (), " ".join(text.split()[:399]) + " what end")
        # A whole plan of 399 words is too deep, one of 401 words too long; words behind a plan are none of it.
        whole = "ours end " + ask * 99 + "end"
        self.assertEqual(len(whole.split()), 399)
        self.raises(TooGreat, {"most": 16}, read_plan, (), whole)
        self.raises(TooGreat, {"most": 400}, read_plan, (), "ours end " + whole)
        self.raises(BadText, {"line": 0, "word": 399}, read_plan, (), whole + " end")
        self.raises(BadText, {"line": 0, "word": 399}, read_plan, (), whole + " end end end")
        world = "places 2 " + "; 0 pass 1 " * 99
        self.assertEqual(len(world.split()), 398)
        self.raises(BadWorld, {"place": (1,)}, read_world, (), world)
        longer = world + "; 0"
        self.raises(BadText, {"line": 0, "word": 400}, read_world, (), longer)
        self.raises(TooGreat, {"most": 400}, read_world, (), longer + " pass 1")
        steps = "; 0 ask ( 0 ) 1 " * 2 + "; 0 pass 1 " * 96
        self.assertEqual(len(("places 2 " + steps).split()), 400)
        self.raises(BadWorld, {"place": (1,)}, read_world, (), "places 2 " + steps)
        self.raises(TooGreat, {"most": 400}, read_world, (), "places 2 " + steps + ";")
        self.raises(TooGreat, {"most": 400}, read_world, (), "places 2 " + steps + "x")
        self.raises(BadText, {"line": 0, "word": 2}, read_world, (), "places 2 x" + steps * 9)
        trees = "{ ( 0 ) ( 0 ) " + "{ ( 0 ) ( 0 ) } " * 49
        self.assertEqual(len(trees.split()), 399)
        self.raises(TooGreat, {"most": 8}, read_tree, (), trees + "}")
        self.raises(TooGreat, {"most": 400}, read_tree, (), trees + "} }")
        self.raises(BadText, {"line": 0, "word": 399}, read_tree, (), trees)
        self.raises(TooGreat, {"most": 400}, read_tree, (), trees + "{ ( 0 )")
        self.raises(TooGreat, {"most": 400}, read_formula, (), "one [ " * 300)
        self.raises(BadText, {"line": 0, "word": 400}, read_formula, (), "one [ " * 200)
        self.raises(TooGreat, {"most": 6}, read_formula, (), "one [ " * 133 + "] " * 133)

    def test_errors_behind_all_words(self):
        leaf = "{ ( 0 ) ( 0 ) }"
        self.raises(BadTree, {"path": (2, 1)}, read_tree, (),
                    "{ ( 0 ) ( 0 ) " + leaf + " { ( %d ) ( 0 ) } }" % (FAR + 1))
        self.raises(TooGreat, {"most": 8}, read_tree, (), "{ ( 0 ) ( 0 ) " + leaf * 0 + (leaf + " ") * 8 + "}")
        self.raises(BadPlan, {"path": (2, 2)}, read_plan, (), "ours end ask ( 0 ) ask ( %d ) end" % (FAR + 1))
        self.raises(TooGreat, {"most": 16}, read_plan, (), "ask ( 0 ) " * 16 + "end")
        self.assertEqual(read_plan((), "ask ( 0 ) " * 15 + "end"), plan_of_asks(15))
        self.raises(TooGreat, {"most": 60}, read_plan, (), plan_words(full_plan(6)))
        self.assertEqual(read_plan((), plan_words(full_plan(5))), full_plan(5))
        self.raises(BadFormula, {"path": (1, 0)}, read_formula, (), "any [ ( %d ) ]" % (FAR + 1))
        self.raises(BadFormula, {"path": ()}, read_formula, (), "any [ ( 0 ) ( 0 ) ( 0 ) ( 0 ) ( 0 ) ]")
        self.raises(TooGreat, {"most": 6}, read_formula, (), "any [ " * 6 + "( 0 )" + " ]" * 6)
        self.raises(BadWorld, {"place": (0,)}, read_world, (), "places 0")
        self.raises(BadWorld, {"place": (0,)}, read_world, (), "places 9 ; 9 pass 9")
        self.raises(BadWorld, {"place": (1, 1)}, read_world, (), "places 1 ; 0 pass 0 ; 0 pass 1")
        self.raises(BadWorld, {"place": (1,)}, read_world, (), "places 1" + " ; 0 pass 0" * 15)
        self.assertEqual(read_world((), "places 1" + " ; 0 pass 0" * 14), (1, ((0, ("pass",), 0),) * 14))
        # A wrong word behind what is too great comes first.
        self.raises(BadText, {"line": 0, "word": 4}, read_world, (), "places 9 ; 9 fail 9")

    def test_the_greatest_things_are_read_back(self):
        units = (2, 2, 2)
        great = (FAR,) * 4
        chain = END
        for _ in range(13):
            chain = ("ask", great, chain)
        plan = ("either", ("ours", chain, chain), ("ours", chain, chain))
        tree = (great, great, ((great, great, ()),) * 7)
        formula = ("any", (("one", (("row", great),) * 4),) * 4)
        world = (8, ((7, ("bring", great), 7),) * 14)
        for form, value in (("plan", plan), ("tree", tree), ("world", world)):
            write, read = FORMS[form]
            self.assertEqual(read(units, write(units, value)), value)
            self.assertLessEqual(len(write(units, value).split()), 400)
        self.raises(TooGreat, {"most": 20}, formula_text, units, formula)
        formula = ("any", formula[1][:3] + (("row", great),))
        self.assertEqual(read_formula(units, formula_text(units, formula)), formula)


def plan_of_asks(many):
    plan = END
    for _ in range(many):
        plan = ("ask", (0,), plan)
    return plan


def plan_words(plan):
    return " ".join([plan[0], *map(plan_words, plan[1:])])


if __name__ == "__main__":
    unittest.main()
