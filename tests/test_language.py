"""The files of the package keep to the main rules of LANGUAGE.md, as far as a look at the code can tell."""

import ast
import builtins
import os
import unittest

from stairyard import errors

HERE = os.path.dirname(os.path.abspath(__file__))
PACKAGE = os.path.join(os.path.dirname(HERE), "stairyard")

BUILTINS = set((
    "len range enumerate zip min max sum abs sorted reversed int str bool bytes list tuple dict set frozenset "
    "isinstance ord repr any all divmod ValueError map iter next").split())
METHODS = set((
    "append clear copy count endswith extend find get index insert isalnum isalpha isdigit islower isspace isupper "
    "items join keys ljust lower lstrip partition pop remove replace reverse rfind rjust rpartition rsplit rstrip "
    "setdefault split splitlines startswith strip update upper values zfill bit_length isascii").split())
OWN_METHODS = set((
    "__init__ __eq__ __len__ __iter__ __str__ tree needs spare do follow trial undo log copy _go_on all_true named").split())
BEGINNINGS = ("__", "_wall", "_pe_", "_dcw_", "_enum_", "_cm_", "_twin_re_", "_lay_", "_law_", "_stub_", "_sre")
BARRED = set((
    "register mro elements open input law version_info with_traceback add_note compile dir eval exec exit gc globals "
    "help id importlib license locals os quit super vars sys type print").split())
NEVER = (
    ast.AsyncFunctionDef, ast.AsyncFor, ast.AsyncWith, ast.Await, ast.Global, ast.Import, ast.Div, ast.MatMult,
    ast.GeneratorExp, ast.Yield, ast.YieldFrom, ast.AnnAssign)
CONSTANTS = ("None", "True", "False")
MODIFYING = set("append clear extend insert pop remove reverse setdefault update".split())
VIEWS = ("enumerate", "zip", "reversed")
LOOPS = (ast.For, ast.ListComp, ast.SetComp, ast.DictComp)
OWN_ERRORS = set(name for name in vars(errors) if not name.startswith("_"))


def sources():
    found = {}
    for name in sorted(os.listdir(PACKAGE)):
        if name.endswith(".py"):
            with open(os.path.join(PACKAGE, name), encoding="utf-8") as file:
                found[name] = file.read()
    return found


def imports_of(tree):
    return [node for node in ast.walk(tree) if isinstance(node, ast.ImportFrom)]


def bound_in(function):
    """The names of parameters, variables and functions within a function."""
    arguments = function.args
    names = [one.arg for one in arguments.posonlyargs + arguments.args + arguments.kwonlyargs]
    names += [node.id for node in ast.walk(function) if isinstance(node, ast.Name) and isinstance(node.ctx, ast.Store)]
    return names


def told_by(node):
    """The names, attributes and items that a value may be, as texts; nothing for what is made anew, as slices are."""
    if isinstance(node, ast.IfExp):
        return told_by(node.body) | told_by(node.orelse)
    if isinstance(node, ast.BoolOp):
        return set().union(*map(told_by, node.values))
    if isinstance(node, ast.Subscript) and isinstance(node.slice, ast.Slice):
        return set()
    return {ast.unparse(node)} if isinstance(node, (ast.Name, ast.Attribute, ast.Subscript)) else set()


def walked_by(node):
    """What a loop over this goes over, through `enumerate` and the like and through the views of a dict."""
    if not isinstance(node, ast.Call):
        return told_by(node)
    if isinstance(node.func, ast.Attribute) and node.func.attr in ("items", "keys", "values"):
        return told_by(node.func.value)
    if isinstance(node.func, ast.Name) and node.func.id in VIEWS:
        return set().union(*map(walked_by, node.args))
    return set()


def given_names(function):
    """The pairs of a target and of a value that is assigned to it somewhere in a function."""
    for node in ast.walk(function):
        for target in node.targets if isinstance(node, ast.Assign) else []:
            if isinstance(target, ast.Tuple) and isinstance(node.value, ast.Tuple):
                yield from zip(target.elts, node.value.elts)
            else:
                yield target, node.value


def known_as(texts, function):
    """These texts and all others by which the same values may be known in a function."""
    pairs = [told_by(target) | told_by(value) for target, value in given_names(function)]
    found = set(texts)
    while True:
        more = found.union(*(pair for pair in pairs if pair & found))
        if more == found:
            return found
        found = more


def changed_in(nodes):
    """What is changed in these nodes, as texts."""
    found = set()
    for node in (inner for outer in nodes for inner in ast.walk(outer)):
        if isinstance(node, ast.Call) and isinstance(node.func, ast.Attribute) and node.func.attr in MODIFYING:
            found |= told_by(node.func.value)
        if isinstance(node, ast.AugAssign):
            found |= told_by(node.target)
        if isinstance(node, ast.Subscript) and not isinstance(node.ctx, ast.Load):
            found |= told_by(node.value)
    return found


def changed_while_walked(function):
    """The pairs of a line and of what a loop at this line goes over and changes, by whichever of its names."""
    found = []
    for loop in [node for node in ast.walk(function) if isinstance(node, LOOPS)]:
        heads = [loop.iter] if isinstance(loop, ast.For) else [part.iter for part in loop.generators]
        changed = changed_in(loop.body if isinstance(loop, ast.For) else [loop])
        for text in known_as(set().union(*map(walked_by, heads)), function) & changed:
            found.append((loop.lineno, text))
    return found


class Language(unittest.TestCase):
    def setUp(self):
        self.sources = sources()
        self.trees = {name: ast.parse(text) for name, text in self.sources.items()}

    def nodes(self):
        for name, tree in self.trees.items():
            for node in ast.walk(tree):
                yield f"{name}:{getattr(node, 'lineno', 0)}", node

    def test_files(self):
        others = [name for name in os.listdir(PACKAGE) if name not in self.sources and name != "__pycache__"]
        self.assertEqual(others, [])
        self.assertIn("__init__.py", self.sources)
        for name, text in self.sources.items():
            with self.subTest(name=name):
                self.assertTrue(all(32 <= ord(sign) <= 126 or sign == "\n" for sign in text))
                self.assertLessEqual(len(text.splitlines()), 399)
                self.assertLessEqual(max(map(len, text.splitlines())), 120)
                self.assertEqual(name, name.lower())
                self.assertNotIn(name[:-3], dir(builtins))

    def test_functions_are_small(self):
        for place, node in self.nodes():
            if isinstance(node, ast.FunctionDef):
                self.assertLessEqual(node.end_lineno - node.lineno + 1, 40, place)
                self.assertEqual(node.decorator_list, [], place)
                self.assertIsNone(node.returns, place)

    def test_module_level(self):
        for name, tree in self.trees.items():
            self.assertIsNotNone(ast.get_docstring(tree), name)
            bound = []
            for node in tree.body[1:]:
                if isinstance(node, ast.Assign):
                    (target,) = node.targets
                    self.assertTrue(target.id.isupper(), name)
                    self.plain_value(node.value, name)
                    bound.append(target.id)
                    continue
                self.assertIsInstance(node, (ast.ImportFrom, ast.FunctionDef, ast.ClassDef), f"{name}:{node.lineno}")
                bound += [one.name for one in node.names] if isinstance(node, ast.ImportFrom) else [node.name]
            self.assertEqual(len(bound), len(set(bound)), name)

    def plain_value(self, node, name):
        """Assert that a value at module level is plain: a dict of tuples at most."""
        if isinstance(node, ast.Dict):
            for part in (*node.keys, *node.values):
                self.assertNotIsInstance(part, ast.Dict, name)
                self.plain_value(part, name)
        elif isinstance(node, ast.Tuple):
            for part in node.elts:
                self.assertNotIsInstance(part, ast.Dict, name)
                self.plain_value(part, name)
        else:
            self.assertIsInstance(node, ast.Constant, name)

    def test_classes(self):
        for name, tree in self.trees.items():
            imported = {one.name for node in imports_of(tree) for one in node.names}
            for node in [node for node in tree.body if isinstance(node, ast.ClassDef) and name != "errors.py"]:
                self.assertEqual((node.bases, node.decorator_list), ([], []))
                self.assertIsNotNone(ast.get_docstring(node))
                methods = node.body[1:]
                attributes = set()
                for method in methods:
                    self.assertIsInstance(method, ast.FunctionDef)
                    self.assertIn(method.name, OWN_METHODS)
                    self.assertEqual(method.args.args[0].arg, "self")
                    attributes |= {one.attr for one in ast.walk(method) if isinstance(one, ast.Attribute)
                                   and isinstance(one.ctx, ast.Store)}
                names = [method.name for method in methods]
                self.assertEqual(len(names), len(set(names)))
                self.assertEqual(attributes & set(names), set())
                self.assertFalse(attributes & imported)
                returned = [one for method in methods if method.name in ("__len__", "__iter__") for one in method.body]
                for one in returned:
                    self.assertIn(one.value.func.id, ("len", "iter"))
                self.assertNotIn("__hash__", names)

    def test_imports_name_the_defining_file_and_make_no_ring(self):
        behind = {}
        for name, tree in self.trees.items():
            behind[name] = set()
            for node in imports_of(tree):
                self.assertEqual((node.level, node.module.partition(".")[0]), (0, "stairyard"), name)
                file = node.module.partition(".")[2] + ".py"
                behind[name].add(file)
                body = self.trees[file].body
                defined = [one.name for one in body if isinstance(one, (ast.FunctionDef, ast.ClassDef))]
                for one in node.names:
                    self.assertIn(one.name, defined, name)
                    self.assertIsNone(one.asname, name)
                    used = [n.id for n in ast.walk(tree) if isinstance(n, ast.Name)]
                    self.assertIn(one.name, used, name)
        while behind:
            free = [name for name, files in behind.items() if not files & set(behind)]
            self.assertTrue(free, behind)
            for name in free:
                del behind[name]

    def test_names(self):
        for name, tree in self.trees.items():
            imported = {one.name for node in imports_of(tree) for one in node.names}
            classes = {node.name for node in ast.walk(tree) if isinstance(node, ast.ClassDef)}
            for node in ast.walk(tree):
                if isinstance(node, ast.FunctionDef):
                    for bound in (node.name, *bound_in(node)):
                        with self.subTest(name=name, bound=bound):
                            self.assertNotIn(bound, dir(builtins))
                            self.assertNotIn(bound, BARRED)
                            self.assertTrue(bound in OWN_METHODS or not bound.startswith(BEGINNINGS))
                    self.assertEqual(set(bound_in(node)) & (imported | classes), set(), f"{name}:{node.lineno}")

    def test_loops_change_nothing_that_they_walk(self):
        for name, tree in self.trees.items():
            for node in ast.walk(tree):
                if isinstance(node, ast.FunctionDef):
                    self.assertEqual(changed_while_walked(node), [], f"{name}: {node.name}")

    def test_loops_that_change_what_they_walk_are_seen(self):
        for rows in ("for x in xs:\n  xs.append(x)", "for at, x in enumerate(xs):\n  xs[at] = 0",
                     "for x in box.rows:\n  del box.rows[0]", "for x in xs[0] or ys:\n  xs[0].pop()",
                     "for x in xs:\n  ys.append(x)\nxs = ys", "ys = xs if k else zs\nfor x in ys:\n  xs += [x]",
                     "xs, ys = ys, []\nfor x in xs:\n  ys.extend(x)", "for k, v in xs.items():\n  xs[v] = k",
                     "zs = xs\nys = zs\nfor x in zip(ys, ys):\n  xs.clear()", "xs = [ys.pop() for x in ys]"):
            with self.subTest(rows=rows):
                self.assertNotEqual(changed_while_walked(ast.parse(rows)), [])
        for rows in ("for x in list(xs):\n  xs.append(x)", "for x in xs:\n  ys.append(x)", "for x in xs:\n  x[0] = 1",
                     "for x in xs[1:]:\n  xs.append(x)", "for x in list(xs):\n  ys.append(x)\nxs = ys",
                     "for x in xs:\n  ys.append(x)\nxs = list(ys)", "for x in xs:\n  pass\nxs.append(1)"):
            with self.subTest(rows=rows):
                self.assertEqual(changed_while_walked(ast.parse(rows)), [])

    def test_builtins_methods_and_signs(self):
        for place, node in self.nodes():
            with self.subTest(place=place):
                self.assertNotIsInstance(node, NEVER)
                if isinstance(node, ast.Name) and node.id in dir(builtins):
                    self.assertIn(node.id, BUILTINS)
                if isinstance(node, ast.Call) and isinstance(node.func, ast.Attribute):
                    init = node.func.attr == "__init__" and node.func.value.id == "YardError"
                    own = node.func.attr in OWN_METHODS and node.func.attr[:2] != "__"
                    self.assertTrue(init or own or node.func.attr in METHODS)
                if isinstance(node, ast.Constant):
                    self.assertNotIsInstance(node.value, (float, complex, bytes))
                    self.assertNotIn("%", str(node.value))
                if isinstance(node, ast.Compare) and any(isinstance(one, (ast.Is, ast.IsNot)) for one in node.ops):
                    self.assertTrue(all(repr(getattr(one, "value", 0)) in CONSTANTS for one in node.comparators))
                if isinstance(node, ast.Try):
                    # Errors of the package are caught around calls of its own functions, none of Python's.
                    self.assertEqual((node.orelse, node.finalbody), ([], []))
                    for handler in node.handlers:
                        caught = handler.type.elts if isinstance(handler.type, ast.Tuple) else [handler.type]
                        self.assertTrue(OWN_ERRORS.issuperset(one.id for one in caught))
                        self.assertIsNone(handler.name)
                if isinstance(node, ast.BinOp) and isinstance(node.op, ast.Pow):
                    self.assertIsInstance(node.right, ast.Constant)
                    self.assertLessEqual(node.right.value, 64)


if __name__ == "__main__":
    unittest.main()
