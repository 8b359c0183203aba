"""The form of the package's code: those rules of its language that are plain to see."""

import ast
import builtins
import os
import unittest

PACKAGE = os.path.join(os.path.dirname(os.path.dirname(os.path.abspath(__file__))), "changetables")

ALLOWED = set("""len range enumerate zip min max sum abs sorted reversed int str bool bytes list tuple dict set
    isinstance ord repr any all divmod pow getattr hasattr setattr iter next map super Exception ValueError TypeError
    KeyError IndexError LookupError ZeroDivisionError ArithmeticError OverflowError RuntimeError NotImplementedError
    AttributeError StopIteration NotImplemented property staticmethod classmethod""".split())

BARRED_NODES = (ast.Global, ast.AsyncFunctionDef, ast.AsyncFor, ast.AsyncWith, ast.Await, ast.Div, ast.Import)

MODULES = ("changetables", "heapq", "math", "itertools", "collections")

MODULE_LEVEL = (ast.ImportFrom, ast.FunctionDef, ast.ClassDef, ast.Assign)


def files():
    """The names, the texts and the trees of the files of the package."""
    found = []
    for folder, folders, names in os.walk(PACKAGE):
        folders[:] = [name for name in folders if name != "__pycache__"]
        for name in sorted(names):
            with open(os.path.join(folder, name), encoding="utf-8", newline="") as file:
                text = file.read()
            found.append((name, text, ast.parse(text, name)))
    return found


def is_builtin(name):
    """Whether a name has a meaning of Python's own (doctest gives one to `_`)."""
    return name != "_" and hasattr(builtins, name)


class Form(unittest.TestCase):
    def test_files_and_characters(self):
        for name, text, _ in files():
            self.assertRegex(name, "^[a-z_]+[.]py$")
            self.assertLessEqual(set(text) - {"\n"}, {chr(code) for code in range(32, 127)})

    def test_sizes(self):
        for name, text, tree in files():
            self.assertLess(len(text.splitlines()), 400, name)
            self.assertLessEqual(max(len(line) for line in text.splitlines()), 120, name)
            for node in ast.walk(tree):
                if isinstance(node, ast.FunctionDef):
                    self.assertLessEqual(node.end_lineno - node.lineno + 1, 40, (name, node.name))

    def test_module_level(self):
        for name, _, tree in files():
            bound = []
            for node in tree.body[1:] if ast.get_docstring(tree) else tree.body:
                self.assertIsInstance(node, MODULE_LEVEL, name)
                if isinstance(node, ast.ImportFrom):
                    bound += [alias.asname or alias.name for alias in node.names]
                elif isinstance(node, ast.Assign):
                    bound += [target.id for target in node.targets]
                else:
                    bound.append(node.name)
            self.assertEqual(len(bound), len(set(bound)), name)

    def test_imports(self):
        for name, _, tree in files():
            for node in ast.walk(tree):
                if isinstance(node, ast.ImportFrom):
                    self.assertEqual(node.level, 0, name)
                    self.assertIn(node.module.split(".")[0], MODULES, name)
                    self.assertNotIn("*", [alias.name for alias in node.names], name)

    def test_builtins(self):
        for name, _, tree in files():
            for node in ast.walk(tree):
                if isinstance(node, ast.Name) and is_builtin(node.id):
                    self.assertIn(node.id, ALLOWED, name)
                    self.assertIsInstance(node.ctx, ast.Load, (name, node.id))
                elif isinstance(node, ast.arg):
                    self.assertFalse(is_builtin(node.arg), (name, node.arg))

    def test_statements_and_signs(self):
        for name, _, tree in files():
            for node in ast.walk(tree):
                self.assertNotIsInstance(node, BARRED_NODES, name)
                self.assertFalse(isinstance(node, ast.Constant) and isinstance(node.value, (float, complex)), name)
                if isinstance(node, ast.ClassDef):
                    self.assertEqual(node.decorator_list, [], name)

    def test_parameters_and_variables_have_other_names_than_imports_and_classes(self):
        for name, _, tree in files():
            taken = [alias.name for node in tree.body if isinstance(node, ast.ImportFrom) for alias in node.names]
            taken += [node.name for node in tree.body if isinstance(node, ast.ClassDef)]
            for node in ast.walk(tree):
                if isinstance(node, ast.arg):
                    self.assertNotIn(node.arg, taken, name)
                elif isinstance(node, ast.Name) and isinstance(node.ctx, ast.Store):
                    self.assertNotIn(node.id, taken, name)


if __name__ == "__main__":
    unittest.main()
