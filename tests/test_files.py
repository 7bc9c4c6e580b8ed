"""What LANGUAGE.md asks of the package's files, as far as it is seen at once: sizes, signs, names, imports."""

import ast
import builtins
import pathlib
import re
import unittest

ROOT = pathlib.Path(__file__).resolve().parent.parent
PACKAGE = ROOT / "guardedwires"
FILES = sorted(PACKAGE.iterdir())
BUILTINS = {"len", "range", "enumerate", "zip", "min", "max", "sum", "abs", "sorted", "reversed", "int", "str", "bool",
            "list", "tuple", "dict", "isinstance", "ord", "repr", "any", "all", "divmod", "ValueError"}
# Running examples binds _ among the builtins, so it is left out here.
ALL_BUILTINS = set(vars(builtins)) - {"_"}
METHODS = {"append", "get", "split", "strip", "join", "startswith", "index", "count", "bit_length"}
OWN_METHODS = {"with_word", "without", "mark", "gate", "look", "flip", "lose", "bring", "off", "told_by", "undo", "redo", "trial",
               "keep", "stand_at", "need_mark"}
BARRED = ["register", "mro", "elements", "open", "input", "law", "version_info", "with_traceback", "add_note"]
UNSEEN = (ast.GeneratorExp, ast.Lambda, ast.Set, ast.SetComp, ast.Global, ast.Nonlocal, ast.Starred, ast.Yield,
          ast.YieldFrom, ast.AsyncFunctionDef, ast.Import, ast.Match, ast.NamedExpr, ast.Delete, ast.AugAssign)


def trees():
    return [(path.name, ast.parse(path.read_text(encoding="utf-8"))) for path in FILES if path.suffix == ".py"]


class Files(unittest.TestCase):

    def test_the_folder(self):
        self.assertIn("__init__.py", [path.name for path in FILES])
        for path in FILES:
            if path.name != "__pycache__":
                self.assertRegex(path.name, r"^[a-z_][a-z0-9_]*\.py$")
                self.assertFalse(path.name.startswith("test"))

    def test_sizes_and_signs(self):
        for path in FILES:
            if path.suffix == ".py":
                text = path.read_text(encoding="utf-8")
                self.assertTrue(all(" " <= sign <= "~" or sign == "\n" for sign in text), path.name)
                self.assertLessEqual(len(text.splitlines()), 399, path.name)
                for line in text.split("\n"):
                    self.assertLessEqual(len(line), 120, path.name)

    def test_sizes_of_functions(self):
        for name, tree in trees():
            for node in ast.walk(tree):
                if isinstance(node, ast.FunctionDef):
                    self.assertLessEqual(node.end_lineno - node.lineno + 1, 40, (name, node.name))

    def test_statements_and_expressions(self):
        for name, tree in trees():
            for node in ast.walk(tree):
                self.assertNotIsInstance(node, UNSEEN, name)
                if isinstance(node, ast.Constant):
                    self.assertIn(type(node.value), (int, str, bool, type(None)), name)
                    self.assertNotIn("%", str(node.value), name)
                if isinstance(node, ast.BinOp):
                    self.assertNotIsInstance(node.op, (ast.Pow, ast.Div, ast.MatMult), name)

    def test_imports(self):
        for name, tree in trees():
            for node in ast.walk(tree):
                if isinstance(node, ast.ImportFrom):
                    self.assertIn(node, tree.body)
                    self.assertEqual((node.level, node.module.split(".")[0]), (0, "guardedwires"))
                    source = ast.parse((PACKAGE / (node.module.split(".")[1] + ".py")).read_text(encoding="utf-8"))
                    for alias in node.names:
                        self.assertIsNone(alias.asname)
                        self.assertIn(alias.name, bound(source), (name, alias.name))

    def test_each_name_is_bound_once(self):
        for name, tree in trees():
            imported = [alias.name for node in tree.body if isinstance(node, ast.ImportFrom) for alias in node.names]
            own = bound(tree)
            self.assertEqual(len(imported + own), len(set(imported + own)), name)
            for node in ast.walk(tree):
                local = node.arg if isinstance(node, ast.arg) else None
                if isinstance(node, ast.Name) and isinstance(node.ctx, ast.Store) and node.id not in own:
                    local = node.id
                self.assertNotIn(local, imported, name)
                self.assertFalse(local in ALL_BUILTINS, (name, local))

    def test_builtins_and_methods(self):
        for name, tree in trees():
            for node in ast.walk(tree):
                if isinstance(node, ast.Name) and node.id in ALL_BUILTINS:
                    self.assertIn(node.id, BUILTINS | ({"property"} if name == "machine.py" else set()), name)
                if isinstance(node, ast.Call) and isinstance(node.func, ast.Attribute):
                    self.assertIn(node.func.attr, METHODS | OWN_METHODS, name)

    def test_own_errors_alone_are_caught(self):
        own = bound(dict(trees())["errors.py"])
        for name, tree in trees():
            for node in ast.walk(tree):
                if isinstance(node, ast.Try):
                    self.assertEqual((node.orelse, node.finalbody), ([], []), name)
                    for handler in node.handlers:
                        self.assertIn(handler.type.id, own, name)

    def test_classes(self):
        """Only properties are decorated; blocks stand over a call of an own method; ends of blocks just set attributes."""
        for name, tree in trees():
            for node in ast.walk(tree):
                if isinstance(node, ast.FunctionDef):
                    self.assertIn([ast.unparse(its) for its in node.decorator_list], ([], ["property"]), name)
                if isinstance(node, ast.With):
                    self.assertEqual([ast.unparse(item) for item in node.items], ["self.trial()"])
                if isinstance(node, ast.FunctionDef) and node.name == "__exit__":
                    allowed = (ast.FunctionDef, ast.arguments, ast.arg, ast.Assign, ast.Attribute, ast.Name, ast.If, ast.BoolOp, ast.Or,
                               ast.Compare, ast.IsNot, ast.Constant, ast.UnaryOp, ast.Not, ast.Load, ast.Store)
                    self.assertLessEqual({type(its) for its in ast.walk(node)}, set(allowed))

    def test_barred_words(self):
        for path in FILES:
            if path.suffix == ".py":
                words = set(re.findall(r"\w+", path.read_text(encoding="utf-8")))
                self.assertEqual([word for word in BARRED if word in words], [], path.name)


def bound(tree):
    """The names that a file binds by def, class and assignments."""
    names = [node.name for node in tree.body if isinstance(node, (ast.FunctionDef, ast.ClassDef))]
    return names + [node.targets[0].id for node in tree.body if isinstance(node, ast.Assign)]


if __name__ == "__main__":
    unittest.main()
