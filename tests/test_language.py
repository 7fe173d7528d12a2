"""The form of the package's code: the main rules of LANGUAGE.md, which are told here by their numbers."""

import ast
import builtins
import os
import re
import unittest

FOLDER = os.path.join(os.path.dirname(os.path.dirname(os.path.abspath(__file__))), "everyrounding")
FILES = sorted(name for name in os.listdir(FOLDER) if name != "__pycache__")
BUILTINS = {"len", "range", "enumerate", "zip", "min", "max", "sum", "abs", "sorted", "reversed", "int", "str", "bool",
            "list", "tuple", "dict", "isinstance", "ord", "repr", "any", "all", "divmod", "iter", "type", "property",
            "ValueError", "ZeroDivisionError", "KeyError", "NotImplemented", "staticmethod"}
METHODS = {"append", "clear", "copy", "count", "endswith", "extend", "find", "get", "index", "insert", "isalnum", "isalpha",
           "isdigit", "islower", "isspace", "isupper", "items", "join", "keys", "ljust", "lower", "lstrip", "partition",
           "pop", "remove", "replace", "reverse", "rfind", "rjust", "rpartition", "rsplit", "rstrip", "setdefault", "split",
           "splitlines", "startswith", "strip", "update", "upper", "values", "zfill", "bit_length", "sort"}
STATEMENTS = (ast.Assign, ast.AugAssign, ast.If, ast.While, ast.For, ast.Return, ast.Break, ast.Continue, ast.Pass,
              ast.Raise, ast.Assert, ast.Delete, ast.Expr, ast.FunctionDef, ast.ClassDef, ast.ImportFrom, ast.Try)
DUNDERS = {"__init__", "__eq__", "__repr__", "__str__", "__len__", "__call__", "__iter__", "__contains__", "__neg__",
           "__add__", "__sub__", "__mul__"}
LIBRARY = {"math": {"gcd", "lcm", "isqrt", "comb"}, "heapq": {"heappush", "heappop"}}
UNUSED = {"mro", "elements", "open", "input", "law", "version_info", "with_traceback", "add_note", "register", "attrgetter",
          "breakpoint", "compile", "copyright", "credits", "delattr", "dir", "eval", "exec", "exit", "gc", "globals",
          "help", "id", "license", "locals", "methodcaller", "os", "quit", "vars", "sys"}


def source(name):
    with open(os.path.join(FOLDER, name), encoding="utf-8") as file:
        return file.read()


TREES = {name: ast.parse(source(name)) for name in FILES if name.endswith(".py")}


def defined(tree):
    """The names that a file defines at its top, imports left out."""
    names = [node.name for node in tree.body if isinstance(node, (ast.FunctionDef, ast.ClassDef))]
    return names + [node.targets[0].id for node in tree.body if isinstance(node, ast.Assign)]


def imported(tree):
    return [alias.name for node in tree.body if isinstance(node, ast.ImportFrom) for alias in node.names]


def functions(tree):
    return [node for node in ast.walk(tree) if isinstance(node, ast.FunctionDef)]


class TestFiles(unittest.TestCase):
    def test_l1_l10_l14_files(self):
        self.assertLessEqual(len(FILES), 100)
        for name in FILES:
            self.assertRegex(name, r"^[a-z0-9_]+\.py$")
            text = source(name)
            self.assertTrue(all(c == "\n" or " " <= c <= "~" for c in text), name)
            lines = text.splitlines()
            self.assertLessEqual(len(lines), 399, name)
            self.assertLessEqual(max(map(len, lines)), 120, name)

    def test_l10_functions(self):
        for name, tree in TREES.items():
            for node in functions(tree):
                self.assertLessEqual(node.end_lineno - node.lineno + 1, 40, (name, node.name))


class TestTop(unittest.TestCase):
    def test_l2_l16_imports(self):
        for name, tree in TREES.items():
            for node in ast.walk(tree):
                self.assertNotIsInstance(node, ast.Import)
                if isinstance(node, ast.ImportFrom):
                    self.assertEqual(node.level, 0)
                    self.assertTrue(all(alias.asname is None and alias.name != "*" for alias in node.names))
                    names = {alias.name for alias in node.names}
                    if node.module in LIBRARY:
                        self.assertLessEqual(names, LIBRARY[node.module])
                    else:
                        package, _, module = node.module.partition(".")
                        self.assertEqual(package, "everyrounding")
                        self.assertLessEqual(names, set(defined(TREES[module + ".py"])), name)

    def test_l16_no_circles(self):
        uses = {name: [node.module.partition(".")[2] + ".py" for node in tree.body
                       if isinstance(node, ast.ImportFrom) and node.module.startswith("everyrounding.")]
                for name, tree in TREES.items()}
        left = dict(uses)
        while left:
            free = [name for name in left if not any(used in left for used in left[name])]
            self.assertTrue(free, left)
            for name in free:
                del left[name]

    def test_imports_are_used(self):
        for name, tree in TREES.items():
            used = {node.id for node in ast.walk(tree) if isinstance(node, ast.Name)}
            self.assertEqual([told for told in imported(tree) if told not in used], [], name)

    def test_l3_l15_top_level(self):
        for name, tree in TREES.items():
            for at, node in enumerate(tree.body):
                if isinstance(node, ast.Expr):
                    self.assertTrue(at == 0 and isinstance(node.value, ast.Constant))
                elif isinstance(node, ast.Assign):
                    self.assertEqual(len(node.targets), 1)
                    self.assertIsInstance(node.targets[0], ast.Name)
                    self.assertFalse([c for c in ast.walk(node.value) if isinstance(c, (ast.Call, ast.Set))])
                else:
                    self.assertIsInstance(node, (ast.FunctionDef, ast.ClassDef, ast.ImportFrom))
            names = defined(tree) + imported(tree)
            self.assertEqual(len(names), len(set(names)), name)

    def test_l3_shifts_at_the_top(self):
        for name, tree in TREES.items():
            for top in tree.body:
                for node in ast.walk(top) if isinstance(top, ast.Assign) else []:
                    if isinstance(node, ast.BinOp) and isinstance(node.op, (ast.LShift, ast.RShift)):
                        self.assertTrue(isinstance(node.right, ast.Constant) and 0 <= node.right.value <= 3000, (name, node.lineno))

    def test_l3_l15_tables_hold_tuples_and_functions_of_the_file(self):
        for name, tree in TREES.items():
            above = set()
            for top in tree.body:
                if isinstance(top, ast.FunctionDef):
                    above.add(top.name)
                if not isinstance(top, ast.Assign):
                    continue
                if isinstance(top.value, (ast.Dict, ast.List)):
                    inner = [node for node in ast.walk(top.value) if isinstance(node, (ast.Dict, ast.List))]
                    self.assertEqual(len(inner), 1, (name, top.lineno))
                read = {node.id for node in ast.walk(top.value) if isinstance(node, ast.Name)}
                self.assertLessEqual(read, above | {told.targets[0].id for told in tree.body if isinstance(told, ast.Assign)})


class TestCalls(unittest.TestCase):
    def test_l7_stars_stand_before_names(self):
        for name, tree in TREES.items():
            for node in ast.walk(tree):
                if isinstance(node, ast.Starred):
                    self.assertIsInstance(node.value, ast.Name, (name, node.lineno))
                if isinstance(node, ast.Call):
                    self.assertTrue(all(told.arg is not None for told in node.keywords), (name, node.lineno))

    def test_l2_library_is_called_by_its_bare_name(self):
        known = {told for names in LIBRARY.values() for told in names}
        for name, tree in TREES.items():
            called = {id(node.func) for node in ast.walk(tree) if isinstance(node, ast.Call) and not node.keywords
                      and not any(isinstance(told, ast.Starred) for told in node.args)}
            for node in ast.walk(tree):
                if isinstance(node, ast.Name) and node.id in known:
                    self.assertIn(id(node), called, (name, node.lineno))

    def test_l19_only_own_errors_are_caught(self):
        for name, tree in TREES.items():
            for node in ast.walk(tree):
                if isinstance(node, ast.Try):
                    self.assertEqual(node.finalbody + node.orelse, [], (name, node.lineno))
                    self.assertEqual([ast.unparse(told.type) for told in node.handlers], ["Refused"], (name, node.lineno))


class TestNames(unittest.TestCase):
    def test_l8_l15_builtins_and_clashes(self):
        for name, tree in TREES.items():
            outer = set(imported(tree)) | {node.name for node in tree.body if isinstance(node, ast.ClassDef)}
            known = set(defined(tree)) | set(imported(tree))
            for node in functions(tree):
                args = node.args
                told = {a.arg for a in args.args + args.kwonlyargs + args.posonlyargs}
                told |= {a.arg for a in (args.vararg, args.kwarg) if a}
                told |= {n.id for n in ast.walk(node) if isinstance(n, ast.Name) and isinstance(n.ctx, ast.Store)}
                self.assertFalse(told & outer, (name, node.name))
                self.assertFalse(told & set(dir(builtins)), (name, node.name))
                read = {n.id for n in ast.walk(node) if isinstance(n, ast.Name) and isinstance(n.ctx, ast.Load)}
                self.assertFalse(read - told - known - BUILTINS - {"property"} - self.setters(node), (name, node.name))
            self.assertFalse(known & set(dir(builtins)), name)

    def setters(self, node):
        return {n.value.id for n in node.decorator_list if isinstance(n, ast.Attribute)}

    def test_l12_l17_names(self):
        for name, tree in TREES.items():
            names = {n.id for n in ast.walk(tree) if isinstance(n, ast.Name)} | set(defined(tree))
            names |= {n.attr for n in ast.walk(tree) if isinstance(n, ast.Attribute)}
            names |= {n.arg for n in ast.walk(tree) if isinstance(n, (ast.arg, ast.keyword))}
            self.assertFalse(names & UNUSED, name)
            for told in names:
                self.assertRegex(told, r"^(_|_?[A-Za-z][A-Za-z0-9_]*)$")
            read = [n for n in ast.walk(tree) if isinstance(n, ast.Name) and n.id == "_" and isinstance(n.ctx, ast.Load)]
            self.assertEqual(read, [], name)


class TestStatements(unittest.TestCase):
    def test_l4_l5_l6_statements_and_decorators(self):
        for name, tree in TREES.items():
            for node in ast.walk(tree):
                if isinstance(node, ast.stmt):
                    self.assertIsInstance(node, STATEMENTS, (name, getattr(node, "lineno", 0)))
                if isinstance(node, ast.FunctionDef):
                    for told in node.decorator_list:
                        self.assertIn(ast.unparse(told).split(".")[-1], ("property", "setter", "staticmethod"))
                    if node.name.startswith("__"):
                        self.assertIn(node.name, DUNDERS)
                if isinstance(node, ast.ClassDef):
                    self.assertEqual(node.decorator_list, [])

    def test_l7_l24_l27_expressions(self):
        for name, tree in TREES.items():
            for node in ast.walk(tree):
                where = (name, getattr(node, "lineno", 0))
                self.assertNotIsInstance(node, (ast.Set, ast.SetComp, ast.GeneratorExp, ast.Lambda, ast.NamedExpr), where)
                if isinstance(node, ast.Constant):
                    self.assertIn(type(node.value), (int, str, bool, type(None)), where)
                    if type(node.value) is str:
                        self.assertNotIn("%", node.value, where)
                if isinstance(node, (ast.BinOp, ast.AugAssign)):
                    self.assertNotIsInstance(node.op, (ast.Div, ast.Pow, ast.MatMult), where)

    def test_l23_ranges_and_their_kin_are_iterated_at_once(self):
        kin = {"range", "zip", "enumerate", "reversed", "map", "iter"}
        for name, tree in TREES.items():
            for node in ast.walk(tree):
                if isinstance(node, (ast.Assign, ast.Return)) and isinstance(node.value, ast.Call):
                    if isinstance(node.value.func, ast.Name) and node.value.func.id in kin:
                        self.assertEqual(ast.unparse(node.value)[:5], "iter(", (name, node.lineno))

    def test_l20_is(self):
        for name, tree in TREES.items():
            for node in ast.walk(tree):
                if isinstance(node, ast.Compare) and isinstance(node.ops[0], (ast.Is, ast.IsNot)):
                    side = node.comparators[0]
                    asked = isinstance(node.left, ast.Call) and ast.unparse(node.left.func) == "type"
                    self.assertTrue(asked or (isinstance(side, ast.Constant) and side.value in (None, True, False)),
                                    (name, node.lineno))

    def test_l8_type_is_only_compared(self):
        for name in TREES:
            for line in source(name).splitlines():
                if re.search(r"\btype\(", line):
                    self.assertRegex(line, r"type\(\w+\) is (not )?(int|str|tuple|list|bool)\b")

    def test_l25_methods(self):
        for name, tree in TREES.items():
            own = {n.name for t in TREES.values() for n in functions(t)}
            for node in ast.walk(tree):
                if isinstance(node, ast.Call) and isinstance(node.func, ast.Attribute):
                    self.assertIn(node.func.attr, METHODS | own, (name, node.lineno))

    def test_l19_raise_creates_the_error(self):
        for name, tree in TREES.items():
            for node in ast.walk(tree):
                if isinstance(node, ast.Raise):
                    self.assertIsInstance(node.exc, ast.Call, (name, node.lineno))
                    self.assertIsInstance(node.exc.func, ast.Name, (name, node.lineno))
