"""Sheets: what is named and said in lines, whether it is so, and the first wrong word of a line: point 73."""

import random
import unittest

from stairyard.errors import (
    BadFormula, BadParameter, BadPlan, BadRow, BadText, BadTree, BadWorld, TooGreat, YardError)
from stairyard.formulas import is_enough_for
from stairyard.plans import lives, plan_stocks
from stairyard.sheet import Sheet
from stairyard.spares import spare
from stairyard.stairs import lack, rest
from stairyard.texts import formula_text, plan_text, row_text, tree_text, world_text
from stairyard.worlds import outlives, world_needs
from stairyard.yards import is_served, yard_paths
from tests.runs import worlds_for
from tests.test_texts import Descent, Ended, Wrong, some_formula, some_plan
from tests.tools import STRAY, Alike, YardCase, lies_within, rows_to
from tests.trees import trees_for

SHEET = """units 2 3

row A is ( 1 0 4 )
row B is ( 0 3 0 )
row LACKED is ( 0 1 0 )
row REST is ( 0 1 4 )
row NONE is ( 0 0 0 )
tree T is { ( 1 0 0 ) ( 0 0 0 ) { ( 0 1 0 ) ( 0 1 3 ) } }
tree U2 is { ( 0 0 0 ) ( 0 0 1 ) }
plan P is ask ( 1 0 0 ) either end ask ( 0 0 3 ) end
plan Q9 is ask ( 1 0 3 ) end
plan R is end
formula F is any [ ( 1 0 0 ) one [ ( 0 3 0 ) ( 0 0 4 ) ] ]
world W is places 2 ; 0 ask ( 0 0 3 ) 1 ; 1 bring ( 0 0 3 ) 0
world V is places 1 ; 0 ask ( 0 0 1 ) 0
row SENT is ( 0 1 0 )
say NONE within A
deny A within B
say A lacks LACKED for B
deny A lacks NONE for B
deny A leaves REST behind B
say A leaves REST behind SENT
say T served
deny U2 served
say T spares NONE at 2 1
say P lives A
say P like Q9
deny P like R
say F enough A
deny F enough NONE
say W lives A
deny V lives A
say V endless
deny W endless
"""
FOLLOWING = {
    "row": {"within": ("row",), "lacks": ("row", "for", "row"), "leaves": ("row", "behind", "row")},
    "tree": {"served": (), "spares": ("row", "at", "numbers")},
    "plan": {"lives": ("row",), "like": ("plan",)},
    "formula": {"enough": ("row",)},
    "world": {"lives": ("row",), "endless": ()},
}


class Lines:
    """A sheet read line by line, each word by itself: what is named, said, or the first wrong line and word."""

    def __init__(self, text):
        self.named, self.said, self.wrong = {}, [], None
        self.units = None
        for number, line in enumerate(text.split("\n")):
            words = [word for word in line.split(" ") if word]
            if words:
                reader = Descent(self.units, words)
                try:
                    self.line(number, reader)
                    if reader.at < len(words):
                        raise Wrong
                except (Ended, Wrong):
                    self.wrong = (number, reader.at)
                    return

    def line(self, number, reader):
        if self.units is None:
            reader.take("units")
            ratios = []
            while reader.at < len(reader.words) and len(ratios) < 3:
                ratios.append(int(reader.take(*map(str, range(2, 11)))))
            self.units = tuple(ratios)
            return
        kind = reader.take("row", "tree", "plan", "formula", "world", "say", "deny")
        if kind in ("say", "deny"):
            self.said.append((number, kind, *self.saying(reader)))
            return
        name = reader.peek()
        letters = "ABCDEFGHIJKLMNOPQRSTUVWXYZ"
        if name in self.named or len(name) > 8 or name[0] not in letters or set(name) - set(letters + "0123456789"):
            raise Wrong
        reader.at += 1
        reader.take("is")
        self.named[name] = (kind, getattr(reader, kind)())

    def name(self, reader, kinds):
        name = reader.peek()
        if name not in self.named or self.named[name][0] not in kinds:
            raise Wrong
        reader.at += 1
        return self.named[name]

    def saying(self, reader):
        kind, value = self.name(reader, FOLLOWING)
        word = reader.take(*FOLLOWING[kind])
        values = [value]
        for told in FOLLOWING[kind][word]:
            if told in FOLLOWING:
                values.append(self.name(reader, (told,))[1])
            elif told == "numbers":
                while reader.at < len(reader.words):
                    values.append(reader.number())
            else:
                reader.take(told)
        return word, kind, values


def is_so(units, word, kind, values):
    """Whether a saying is so, by the functions that the document names."""
    one, *others = values
    if word == "within":
        return lies_within(units, one, others[0])
    if word == "lacks":
        return lack(units, others[1], one) == others[0]
    if word == "leaves":
        return lies_within(units, others[1], one) and rest(units, one, others[1]) == others[0]
    if word == "served":
        return is_served(units, one)
    if word == "spares":
        path = tuple(others[1:])
        return is_served(units, one) and path in yard_paths(units, one) and spare(units, one, path) == others[0]
    if word == "lives":
        return lives(units, one, others[0]) if kind == "plan" else outlives(units, one, others[0])
    if word == "like":
        return plan_stocks(units, one) == plan_stocks(units, others[0])
    if word == "enough":
        return is_enough_for(units, one, others[0])
    return world_needs(units, one)[0] is None


def some_sheet(seed):
    """A sheet with names of all kinds and all sayings of them."""
    chance = random.Random(seed)
    units = ((), (2,), (2, 3), (2, 2, 2))[seed % 4]
    rows = rows_to(units, 4)
    lines = [" ".join(["units", *map(str, units)])]
    names = {kind: [] for kind in FOLLOWING}

    def name(kind, text):
        names[kind].append(kind[0].upper() + str(len(names[kind])))
        lines.append(f"{kind} {names[kind][-1]} is {text}")
    for _ in range(5):
        name("row", row_text(units, chance.choice(rows)))
    for tree in trees_for(units, 3, seed):
        name("tree", tree_text(units, tree))
    for _ in range(3):
        name("plan", plan_text(units, some_plan(chance, rows[:4], 4)))
        name("formula", formula_text(units, some_formula(chance, rows[:4], 3)))
    for world in worlds_for(units, 3, seed):
        name("world", world_text(units, world))
    for _ in range(40):
        kind = chance.choice(list(FOLLOWING))
        word = chance.choice(list(FOLLOWING[kind]))
        words = [chance.choice(names[kind]), word]
        for told in FOLLOWING[kind][word]:
            if told in names:
                words.append(chance.choice(names[told]))
            else:
                words += [told] if told != "numbers" else chance.choice(([], ["2", "0"], ["2", "1"], ["2", "0", "2", "0"]))
        lines.append(" ".join([chance.choice(("say", "deny")), *words]))
    return "\n".join(lines)


class Read(YardCase):
    def test_sheet(self):
        sheet = Sheet(SHEET)
        self.assertEqual(sheet.units, (2, 3))
        first = SHEET.split("\n").index("say NONE within A")
        truths = [truth for _, truth in sheet.rows]
        self.assertEqual([line for line, _ in sheet.rows], list(range(first, first + 18)))
        wrong = [SHEET.split("\n")[line] for line, truth in sheet.rows if not truth]
        self.assertEqual(wrong, ["say T spares NONE at 2 1"])
        self.assertEqual(truths.count(False), 1)
        self.assertEqual(len(sheet), 18)
        self.assertEqual(list(sheet), list(sheet.rows))
        self.assertIs(sheet.all_true(), False)
        self.assertIs(sheet.__class__, Sheet)
        self.made_of_tuples(sheet.rows)
        self.assertIs(Sheet(SHEET.replace("say T spares NONE at 2 1", "deny T spares NONE at 2 1")).all_true(), True)

    def test_names(self):
        sheet = Sheet(SHEET)
        self.assertEqual(sheet.named("A"), ("row", (1, 0, 4)))
        self.assertEqual(sheet.named("U2"), ("tree", ((0, 0, 0), (0, 0, 1), ())))
        self.assertEqual(sheet.named("R"), ("plan", ("end",)))
        self.assertEqual(sheet.named("F")[0], "formula")
        self.assertEqual(sheet.named("V"), ("world", (1, ((0, ("ask", (0, 0, 1)), 0),))))
        self.made_of_tuples(sheet.named("T"))
        for name in (*STRAY, "", "a", "AA", "A ", "units", "row", ("A",), Alike()):
            self.raises(BadParameter, {"value": name}, sheet.named, name)

    def test_texts(self):
        sheet = Sheet(SHEET)
        text = "\n".join(line for line in SHEET.split("\n") if line)
        self.assertEqual(str(sheet), text)
        self.assertEqual(str(Sheet(text)), text)
        self.assertEqual(Sheet("  units   2  3 \n\n  row  A is  (  1 0  4 )\n"), Sheet("units 2 3\nrow A is ( 1 0 4 )"))
        self.assertEqual(str(Sheet("  units   2  3 \n\n  row  A is  (  1 0  4 )\n")), "units 2 3\nrow A is ( 1 0 4 )")
        self.assertTrue(Sheet(str(sheet)) == sheet)
        self.assertFalse(Sheet(str(sheet)) != sheet)
        # The sheets are equal, though their lines have other numbers.
        self.assertNotEqual(Sheet(str(sheet)).rows, sheet.rows)
        self.assertFalse(Sheet("units 2") == Sheet("units 3"))
        self.assertFalse(Sheet("units 2") == Sheet("units 2\nrow A is ( 0 0 )"))
        for value in ("units 2", ("units 2",), None, 2):
            self.assertFalse(Sheet("units 2") == value)
            self.assertTrue(Sheet("units 2") != value)

    def test_chosen_sheets(self):
        truths = {}
        for seed in range(40):
            text = some_sheet(seed)
            lines = Lines(text)
            self.assertIsNone(lines.wrong)
            try:
                sheet = Sheet(text)
            except TooGreat as error:
                self.assertEqual(error.most, 40)
                continue
            with self.subTest(seed=seed):
                self.assertEqual(sheet.units, lines.units)
                told = [(number, is_so(lines.units, word, kind, values) is (say == "say"))
                        for number, say, word, kind, values in lines.said]
                self.assertEqual(sheet.rows, tuple(told))
                self.assertEqual(sheet.all_true(), all(truth for _, truth in told))
                for name, value in lines.named.items():
                    self.assertEqual(sheet.named(name), value)
                self.assertEqual(str(sheet), text)
                self.assertEqual(Sheet(str(sheet)), sheet)
                for (number, truth), (_, say, word, kind, _) in zip(told, lines.said):
                    truths[word, kind, say, truth] = True
        # Each saying was said and denied, and was true and false.
        self.assertEqual(len(truths), 4 * sum(map(len, FOLLOWING.values())))

    def test_empty_lines_and_units(self):
        self.assertEqual(Sheet("units").units, ())
        self.assertEqual(Sheet("units 10 2 7").units, (10, 2, 7))
        self.assertEqual(Sheet("\n   \n units 2 \n \nrow A is ( 1 0 )\n\n say A within A \n").rows, ((6, True),))
        self.assertEqual(Sheet("units").rows, ())
        self.assertIs(Sheet("units").all_true(), True)
        self.assertEqual(len(Sheet("units")), 0)
        for text, line, word in (
                ("unit 2", 0, 0), ("\n\nrow A is ( 0 )", 2, 0), ("units 1", 0, 1), ("units 2 11", 0, 2), ("units 02", 0, 1),
                ("units 2 2 2 2", 0, 4), ("units 2 x", 0, 2), ("units 2 2 2 x 1", 0, 4), ("units -2", 0, 1),
                ("units 0", 0, 1), ("units ( 2 )", 0, 1), ("units 2,3", 0, 1), ("\tunits", 0, 0), ("units\t", 0, 0),
                ("units 2\r\nrow A is ( 0 0 )", 0, 1), ("units 2\nunits 2", 1, 0), ("say", 0, 0),
                ("units " + "2" * 62, 0, 1), ("units 2 10 3 9 " + "x " * 500, 0, 4), ("units \u0662", 0, 1)):
            with self.subTest(text=text):
                self.raises(BadText, {"line": line, "word": word}, Sheet, text)

    def test_no_lines(self):
        for value in (*STRAY, ("units",), ["units"], Alike(), "", " ", "\n", "  \n \n   ", "\n" * 500):
            if value != "row" or isinstance(value, Alike):
                self.raises(BadText, {"line": 0, "word": 0}, Sheet, value)

    def test_two_hundred_lines(self):
        lines = ["units 2", "row A is ( 1 0 )"] + ["say A within A"] * 198
        self.assertEqual(len(Sheet("\n".join(lines))), 198)
        self.raises(TooGreat, {"most": 200}, Sheet, "\n".join(lines) + "\n")
        self.raises(TooGreat, {"most": 200}, Sheet, "\n".join(lines + [""]))
        self.assertEqual(len(Sheet("\n".join(lines[:199]) + "\n")), 197)
        self.assertEqual(len(Sheet("\n" * 199 + "units")), 0)
        self.raises(TooGreat, {"most": 200}, Sheet, "\n" * 200 + "units")
        self.raises(TooGreat, {"most": 200}, Sheet, "x\n" * 200)
        self.raises(BadText, {"line": 0, "word": 0}, Sheet, "x\n" * 199)
        self.raises(BadText, {"line": 0, "word": 0}, Sheet, " \n" * 200)


class Wrongs(YardCase):
    def check(self, text):
        """Assert that the first wrong line and word of a text are told, or that there are none."""
        wrong = Lines(text).wrong
        try:
            sheet = Sheet(text)
        except BadText as error:
            self.assertEqual((error.line, error.word), wrong)
            return
        except YardError:
            return
        self.assertIsNone(wrong)
        self.assertEqual(Sheet(str(sheet)), sheet)

    def test_each_word_cut_off_left_out_and_changed(self):
        others = ("A", "T", "P", "F", "W", "X", "is", "at", "for", "within", "lives", "(", "}", "0", "00", "say", "row",
                  "A\t", "end", "behind")
        lines = SHEET.split("\n")
        for number, line in enumerate(lines):
            words = line.split()
            for at in range(len(words)):
                for changed in (words[:at], words[:at] + words[at + 1:], *[
                        words[:at] + [other] + words[at + 1:] for other in others]):
                    told = [*lines[:number], " ".join(changed), *lines[number + 1:]]
                    with self.subTest(line=" ".join(changed)):
                        self.check("\n".join(told))
            for other in others if words else ():
                with self.subTest(line=line, other=other):
                    self.check("\n".join([*lines[:number], line + " " + other, *lines[number + 1:]]))

    def raised(self, line, word, *lines):
        text = "\n".join(["units 2", "row A is ( 1 0 )", "tree T is { ( 1 0 ) ( 0 0 ) }", "plan P is end",
                          "formula F is any [ ]", "world W is places 1", *lines])
        self.raises(BadText, {"line": line, "word": word}, Sheet, text)

    def test_names(self):
        for name in ("a", "Aa", "1A", "A-B", "A_B", "ABCDEFGHI", "\u00c4", "A\u00c4", "A\u0661", "(", "A,", "is"):
            self.raised(6, 1, f"row {name} is ( 0 0 )")
        self.raised(6, 2, "row C D is ( 0 0 )")
        for name in ("B", "Z9", "ABCDEFGH", "A1234567", "AA", "SAY", "ZZZZZZZZ"):
            self.assertEqual(Sheet(f"units 2\nrow {name} is ( 0 0 )\nsay {name} within {name}").rows, ((2, True),))
        for name in "ATPFW":
            for kind, text in (("row", "( 0 0 )"), ("tree", "{ ( 0 0 ) ( 0 0 ) }"), ("plan", "end"), ("formula", "one [ ]"),
                               ("world", "places 1")):
                self.raised(6, 1, f"{kind} {name} is {text}")
        # A name is given from its own line on, not ahead of it.
        self.raised(6, 1, "say B within A", "row B is ( 0 0 )")
        self.raised(6, 3, "say A within B", "row B is ( 0 0 )")

    def test_kinds(self):
        for saying, word in (
                ("A served", 2), ("A lives A", 2), ("T within A", 2), ("P served", 2), ("F lives A", 2), ("W like W", 2),
                ("W within A", 2), ("P enough A", 2), ("F like F", 2), ("T endless", 2), ("A within T", 3), ("P like A", 3),
                ("P lives P", 3), ("F enough F", 3), ("W lives W", 3), ("T spares T at", 3), ("A lacks T for A", 3),
                ("A lacks A for P", 5), ("A lacks A behind A", 4), ("A leaves A for A", 4), ("A leaves A behind F", 5),
                ("T spares A", 4), ("T spares A for", 4), ("T spares A at x", 5), ("T spares A at 2 00", 6), ("B served", 1),
                ("", 1), ("A", 2), ("A within", 3), ("A lacks", 3), ("A lacks A", 4), ("A lacks A for", 5), ("T", 2),
                ("T served now", 3), ("W endless A", 3), ("W endless endless", 3), ("A within A A", 4), ("P lives A at", 4),
                ("T spares A at ( 2 )", 5), ("T spares A at -1", 5), ("say A within A", 1), ("row", 1), ("not A within A", 1)):
            for say in ("say", "deny"):
                self.raised(6, word, f"{say} {saying}")
        for line in ("says A within A", "Say A within A", "A within A", "# A", "rows B is ( 0 0 )", "( 0 0 )", "units 2"):
            self.raised(6, 0, line)
        for line, word in (("row", 1), ("row B", 2), ("row B is", 3), ("row B are ( 0 0 )", 2), ("row B is end", 3),
                           ("row B is ( 0 )", 5), ("row B is ( 0 0 0 )", 6), ("row B is ( 0 0 ) )", 7), ("row B ( 0 0 )", 2),
                           ("plan B is ( 0 0 )", 3), ("plan B is ask ( 0 0 )", 8), ("world B is places 1 ;", 6),
                           ("world B is places 1 end", 5), ("formula B is any", 4), ("tree B is { }", 4),
                           ("tree B is { ( 0 0 ) ( 0 0 )", 12)):
            self.raised(6, word, line)

    def test_errors_behind_the_words_of_a_line(self):
        great = 10 ** 60 + 1
        for line, error, told in (
                (f"row B is ( 0 {great} )", BadRow, {"value": (0, great)}),
                (f"tree B is {{ ( 0 0 ) ( {great} 0 ) }}", BadTree, {"path": ()}),
                (f"plan B is ours end ask ( {great} 0 ) end", BadPlan, {"path": (2,)}),
                ("plan B is " + "ask ( 0 0 ) " * 16 + "end", TooGreat, {"most": 16}),
                (f"formula B is one [ ( {great} 0 ) ]", BadFormula, {"path": (1, 0)}),
                ("formula B is " + "one [ " * 7 + "] " * 7, TooGreat, {"most": 6}),
                ("world B is places 9", BadWorld, {"place": (0,)}),
                ("tree B is { ( 0 0 ) ( 0 0 )" + " { ( 0 0 ) ( 0 0 ) }" * 8 + " }", TooGreat, {"most": 8})):
            text = "units 2\nrow A is ( 0 0 )\n" + line
            self.raises(error, told, Sheet, text)
            self.raises(error, told, Sheet, text + "\nwhat")
            self.raises(error, told, Sheet, text + "\nsay B")
            self.raises(BadText, {"line": 2, "word": len(line.split())}, Sheet, text + " B")
            self.raises(BadText, {"line": 1, "word": 0}, Sheet, "units 2\nwhat\n" + line)

    def test_four_hundred_words(self):
        start = "units 2\nrow A is ( 0 0 )\ntree T is { ( 0 0 ) ( 0 0 ) }\n"
        self.assertEqual(Sheet(start + "say T spares A at " + "0 " * 395).rows, ((3, False),))
        self.raises(TooGreat, {"most": 400}, Sheet, start + "say T spares A at " + "0 " * 396)
        self.raises(TooGreat, {"most": 400}, Sheet, start + "say T spares A at " + "0 " * 395 + "x")
        self.raises(BadText, {"line": 3, "word": 399}, Sheet, start + "say T spares A at " + "0 " * 394 + "x 0 0")
        self.raises(BadText, {"line": 3, "word": 3}, Sheet, start + "say T served" + " 0" * 500)
        self.raises(TooGreat, {"most": 400}, Sheet, start + "plan P is " + "ours " * 398)
        self.raises(BadText, {"line": 3, "word": 400}, Sheet, start + "plan P is " + "ours " * 397)
        self.raises(TooGreat, {"most": 400}, Sheet, start + "say T spares A at " + "0 " * 396 + "\nwhat")
        self.raises(BadText, {"line": 3, "word": 0}, Sheet, start + "what\nsay T spares A at " + "0 " * 396)

    def test_errors_of_the_work(self):
        groups = ["one [ ( 1 0 0 ) ( 0 11 0 ) ( 0 0 111 ) ]", "one [ ( 5 0 0 ) ( 0 57 0 ) ( 0 0 577 ) ]",
                  "one [ ( 30 0 0 ) ( 0 340 0 ) ( 0 0 3500 ) ]", "one [ ( 200 0 0 ) ( 0 2300 0 ) ( 0 0 25000 ) ]"]
        text = "units 10 10\nrow A is ( 1 0 0 )\nformula F is together [ " + " ".join(groups) + " ]\n"
        self.assertEqual(len(Sheet(text)), 0)
        self.raises(TooGreat, {"most": 40}, Sheet, text + "say F enough A")
        self.raises(TooGreat, {"most": 40}, Sheet, text + "deny F enough A")
        # What is said is worked out behind all lines.
        self.raises(BadText, {"line": 4, "word": 0}, Sheet, text + "say F enough A\nwhat")
        great = 10 ** 60 + 1
        self.raises(BadRow, {"value": (great, 0, 0)}, Sheet, text + f"say F enough A\nrow B is ( {great} 0 0 )")

    def test_errors_of_like_plans(self):
        # Seven large rows and seven small ones: each of the 49 pairs is one least row.
        large = any_of([f"( {k} {30 - 3 * k} 0 0 )" for k in range(7)])
        small = any_of([f"( 0 0 {100 + k} {200 - 3 * k} )" for k in range(7)])
        text = f"units 2 2 2\nrow A is ( 99 0 0 0 )\nplan Q is end\nplan P is either {large} {small}\nsay P lives A"
        self.assertEqual(Sheet(text).rows, ((4, True),))
        for saying in ("say P like Q", "deny P like Q", "say Q like P", "say P like P"):
            self.raises(TooGreat, {"most": 40}, Sheet, text + "\n" + saying)
        # Both are worked out in turn.
        self.raises(TooGreat, {"most": 40}, Sheet, text + "\nsay A within A\nsay P like Q\nsay A within A")


def any_of(rows):
    """The plan of one of some asks, which we choose."""
    plan = f"ask {rows[0]} end"
    for row in rows[1:]:
        plan = f"ours ask {row} end {plan}"
    return plan


if __name__ == "__main__":
    unittest.main()
