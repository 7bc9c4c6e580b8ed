"""What LANGUAGE.md asks of the package's files, as far as it is seen at once: sizes, signs, names, imports."""

import ast
import builtins
import pathlib
import re
import unittest

ROOT = pathlib.Path(__file__).resolve().parent.parent
PACKAGE = ROOT / "guardedwires"
FILES = sorted(PACKAGE.iterdir())
BUILTINS = {"len", "range", "enumerate", "zip", "min", "max", "sum", "abs", "sorted", "reversed", "int", "str", "bool",
            "list", "tuple", "dict", "isinstance", "ord", "repr", "any", "all", "divmod", "ValueError"}
# Running examples binds _ among the builtins, so it is left out here.
ALL_BUILTINS = set(vars(builtins)) - {"_"}
METHODS = {"append", "get", "split", "strip", "join", "startswith", "index", "count", "bit_length"}
OWN_METHODS = {"with_word", "without", "mark", "gate", "look", "flip", "lose", "bring", "off", "told_by", "undo", "redo", "trial",
               "keep", "stand_at", "need_mark"}
BARRED = ["register", "mro", "elements", "open", "input", "law", "version_info", "with_traceback", "add_note"]
UNSEEN = (ast.GeneratorExp, ast.Lambda, ast.Set, ast.SetComp, ast.Global, ast.Nonlocal, ast.Starred, ast.Yield,
          ast.YieldFrom, ast.AsyncFunctionDef, ast.Import, ast.Match, ast.NamedExpr, ast.Delete, ast.AugAssign)


def trees():
    return [(path.name, ast.parse(path.read_text(encoding="utf-8"))) for path in FILES if path.suffix == ".py"]


class Files(unittest.TestCase):

    def test_the_folder(self):
        self.assertIn("__init__.py", [path.name for path in FILES])
        for path in FILES:
            if path.name != "__pycache__":
                self.assertRegex(path.name, r"^[a-z_][a-z0-9_]*\.py$")
                self.assertFalse(path.name.startswith("test"))

    def test_sizes_and_signs(self):
        for path in FILES:
            if path.suffix == ".py":
                text = path.read_text(encoding="utf-8")
                self.assertTrue(all(" " <= sign <= "~" or sign == "\n" for sign in text), path.name)
                self.assertLessEqual(len(text.splitlines()), 399, path.name)
                for line in text.split("\n"):
                    self.assertLessEqual(len(line), 120, path.name)

    def test_sizes_of_functions(self):
        for name, tree in trees():
            for node in ast.walk(tree):
                if isinstance(node, ast.FunctionDef):
                    self.assertLessEqual(node.end_lineno - node.lineno + 1, 40, (name, node.name))

    def test_statements_and_expressions(self):
        for name, tree in trees():
            for node in ast.walk(tree):
                self.assertNotIsInstance(node, UNSEEN, name)
                if isinstance(node, ast.Constant):
                    self.assertIn(type(node.value), (int, str, bool, type(None)), name)
                    self.assertNotIn("%", str(node.value), name)
                if isinstance(node, ast.BinOp):
                    self.assertNotIsInstance(node.op, (ast.Pow, ast.Div, ast.MatMult), name)

    def test_imports(self):
        for name, tree in trees():
            for node in ast.walk(tree):
                if isinstance(node, ast.ImportFrom):
                    self.assertIn(node, tree.body)
                    self.assertEqual((node.level, node.module.split(".")[0]), (0, "guardedwires"))
                    source = ast.parse((PACKAGE / (node.module.split(".")[1] + ".py")).read_text(encoding="utf-8"))
                    for alias in node.names:
                        self.assertIsNone(alias.asname)
                        self.assertIn(alias.name, bound(source), (name, alias.name))

    def test_each_name_is_bound_once(self):
        for name, tree in trees():
            imported = [alias.name for node in tree.body if isinstance(node, ast.ImportFrom) for alias in node.names]
            own = bound(tree)
            self.assertEqual(len(imported + own), len(set(imported + own)), name)
            for node in ast.walk(tree):
                local = node.arg if isinstance(node, ast.arg) else None
                if isinstance(node, ast.Name) and isinstance(node.ctx, ast.Store) and node.id not in own:
                    local = node.id
                self.assertNotIn(local, imported, name)
                self.assertFalse(local in ALL_BUILTINS, (name, local))

    def test_builtins_and_methods(self):
        for name, tree in trees():
            for node in ast.walk(tree):
                if isinstance(node, ast.Name) and node.id in ALL_BUILTINS:
                    self.assertIn(node.id, BUILTINS | ({"property"} if name == "machine.py" else set()), name)
                if isinstance(node, ast.Call) and isinstance(node.func, ast.Attribute):
                    self.assertIn(node.func.attr, METHODS | OWN_METHODS, name)

    def test_own_errors_alone_are_caught(self):
        own = bound(dict(trees())["errors.py"])
        for name, tree in trees():
            for node in ast.walk(tree):
                if isinstance(node, ast.Try):
                    self.assertEqual((node.orelse, node.finalbody), ([], []), name)
                    for handler in node.handlers:
                        self.assertIn(handler.type.id, own, name)

    def test_classes(self):
        """Only properties are decorated; blocks stand over a call of an own method."""
        for name, tree in trees():
            for node in ast.walk(tree):
                if isinstance(node, ast.FunctionDef):
                    self.assertIn([ast.unparse(its) for its in node.decorator_list], ([], ["property"]), name)
                if isinstance(node, ast.With):
                    self.assertEqual([ast.unparse(item) for item in node.items], ["self.trial()"])

    def test_ends_of_blocks(self):
        """They set attributes to attributes alone, under questions for None alone, and read only what kind of error it is."""
        ends = [node for _, tree in trees() for node in ast.walk(tree)
                if isinstance(node, ast.FunctionDef) and node.name == "__exit__"]
        self.assertEqual(len(ends), 1)
        for end in ends:
            self.assertEqual([its.arg for its in end.args.args], ["self", "kind", "value", "trace"])
            self.assertTrue(all([is_plain_end(row) for row in end.body]))

    def test_what_ends_of_blocks_may_not_have(self):
        for text in ("self.a = self.b.c", "if kind is None:\n  self.a.b = self.c\nelse:\n  pass",
                     "if kind is not None or not (self.a is None and self.b.c is not None):\n  self.a = self.b"):
            self.assertTrue(is_plain_end(ast.parse(text).body[0]), text)
        for test in ("self.a", "not self.a", "kind is not None or not self.a", "kind is None and self.a", "kind", "not kind",
                     "self.a == True", "self.a is True", "self.a is not False", "self.a is self.b", "None is self.a",
                     "value is None", "trace is None", "kind.a is None", "self.a() is None", "self.a[0] is None", "self.a > 0"):
            for part in ("self.b = self.c", "if kind is None:\n    self.b = self.c"):
                self.assertFalse(is_plain_end(ast.parse(f"if {test}:\n  {part}").body[0]), (test, part))
        for row in ("self.a = kind", "self.a = value", "self.a = self.b()", "self.a()", "return True", "a = self.b",
                    "self.a, self.b = self.b, self.a", "self.a[0] = self.b", "self.a += self.b", "for a in self.b:\n  pass"):
            self.assertFalse(is_plain_end(ast.parse(row).body[0]), row)
            self.assertFalse(is_plain_end(ast.parse("if kind is None:\n  pass\nelse:\n  " + row.replace("\n", "\n  ")).body[0]))

    def test_barred_words(self):
        for path in FILES:
            if path.suffix == ".py":
                words = set(re.findall(r"\w+", path.read_text(encoding="utf-8")))
                self.assertEqual([word for word in BARRED if word in words], [], path.name)


def is_own_attribute(node):
    """Whether it is an attribute of self, or of such an attribute."""
    if not isinstance(node, ast.Attribute):
        return False
    return is_own_attribute(node.value) or isinstance(node.value, ast.Name) and node.value.id == "self"


def is_none_asked(test):
    """Whether it asks kind and attributes alone, by `is None` and `is not None` alone, also joined by and, or, not."""
    if isinstance(test, ast.BoolOp):
        return all([is_none_asked(part) for part in test.values])
    if isinstance(test, ast.UnaryOp):
        return isinstance(test.op, ast.Not) and is_none_asked(test.operand)
    if not isinstance(test, ast.Compare) or len(test.ops) > 1 or not isinstance(test.ops[0], (ast.Is, ast.IsNot)):
        return False
    asked = isinstance(test.left, ast.Name) and test.left.id == "kind" or is_own_attribute(test.left)
    return asked and isinstance(test.comparators[0], ast.Constant) and test.comparators[0].value is None


def is_plain_end(row):
    """Whether it is a row as the end of a block has it: less than LANGUAGE.md allows, as no more is needed."""
    if isinstance(row, ast.If):
        return is_none_asked(row.test) and all([is_plain_end(its) for its in row.body + row.orelse])
    if isinstance(row, ast.Assign):
        return len(row.targets) == 1 and is_own_attribute(row.targets[0]) and is_own_attribute(row.value)
    return isinstance(row, ast.Pass)


def bound(tree):
    """The names that a file binds by def, class and assignments."""
    names = [node.name for node in tree.body if isinstance(node, (ast.FunctionDef, ast.ClassDef))]
    return names + [node.targets[0].id for node in tree.body if isinstance(node, ast.Assign)]


if __name__ == "__main__":
    unittest.main()
