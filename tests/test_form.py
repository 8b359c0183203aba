"""The form of the package's code: those rules of its language that are plain to see."""

import ast
import builtins
import os
import unittest

PACKAGE = os.path.join(os.path.dirname(os.path.dirname(os.path.abspath(__file__))), "changetables")

ALLOWED = set("""len range enumerate zip min max sum abs sorted reversed int str bool bytes list tuple dict set
    isinstance ord repr any all divmod pow getattr hasattr setattr iter next map super Exception ValueError TypeError
    KeyError IndexError LookupError ZeroDivisionError ArithmeticError OverflowError RuntimeError NotImplementedError
    AttributeError StopIteration NotImplemented property staticmethod classmethod""".split())

BARRED_NODES = (ast.Global, ast.AsyncFunctionDef, ast.AsyncFor, ast.AsyncWith, ast.Await, ast.Div, ast.Import)

MODULES = ("changetables", "heapq", "math", "itertools", "collections")

MODULE_LEVEL = (ast.ImportFrom, ast.FunctionDef, ast.ClassDef, ast.Assign)

METHODS = set("""append clear copy count endswith extend find get index insert isalnum isalpha isdigit islower isspace
    isupper items join keys ljust lower lstrip partition pop remove replace reverse rfind rjust rpartition rsplit rstrip
    setdefault split splitlines startswith strip update upper values zfill bit_length isascii""".split())

NEVER_NAMES = set("""register mro elements open input law version_info with_traceback add_note attrgetter breakpoint
    builtins compile copyright credits delattr dir eval exec exit gc globals help id importlib license locals
    methodcaller os quit setattr type vars sys""".split())

NEVER_WORDS = ("type", "typing", "enum", "Enum", "Flag", "Generic", "Protocol", "ABC", "namedtuple", "dataclass",
               "overload", "contextmanager", "Meta", "_wall")


def files():
    """The names, the texts and the trees of the files of the package."""
    found = []
    for folder, folders, names in os.walk(PACKAGE):
        folders[:] = [name for name in folders if name != "__pycache__"]
        for name in sorted(names):
            with open(os.path.join(folder, name), encoding="utf-8", newline="") as file:
                text = file.read()
            found.append((name, text, ast.parse(text, name)))
    return found


def is_builtin(name):
    """Whether a name has a meaning of Python's own (doctest gives one to `_`)."""
    return name != "_" and hasattr(builtins, name)


class Form(unittest.TestCase):
    def test_files_and_characters(self):
        for name, text, _ in files():
            self.assertRegex(name, "^[a-z_]+[.]py$")
            self.assertLessEqual(set(text) - {"\n"}, {chr(code) for code in range(32, 127)})

    def test_sizes(self):
        for name, text, tree in files():
            self.assertLess(len(text.splitlines()), 400, name)
            self.assertLessEqual(max(len(line) for line in text.splitlines()), 120, name)
            for node in ast.walk(tree):
                if isinstance(node, ast.FunctionDef):
                    self.assertLessEqual(node.end_lineno - node.lineno + 1, 40, (name, node.name))

    def test_module_level(self):
        for name, _, tree in files():
            bound = []
            for node in tree.body[1:] if ast.get_docstring(tree) else tree.body:
                self.assertIsInstance(node, MODULE_LEVEL, name)
                if isinstance(node, ast.ImportFrom):
                    bound += [alias.asname or alias.name for alias in node.names]
                elif isinstance(node, ast.Assign):
                    bound += [target.id for target in node.targets]
                else:
                    bound.append(node.name)
            self.assertEqual(len(bound), len(set(bound)), name)

    def test_imports(self):
        for name, _, tree in files():
            for node in ast.walk(tree):
                if isinstance(node, ast.ImportFrom):
                    self.assertEqual(node.level, 0, name)
                    self.assertIn(node.module.split(".")[0], MODULES, name)
                    self.assertNotIn("*", [alias.name for alias in node.names], name)

    def test_builtins(self):
        for name, _, tree in files():
            for node in ast.walk(tree):
                if isinstance(node, ast.Name) and is_builtin(node.id):
                    self.assertIn(node.id, ALLOWED, name)
                    self.assertIsInstance(node.ctx, ast.Load, (name, node.id))
                elif isinstance(node, ast.arg):
                    self.assertFalse(is_builtin(node.arg), (name, node.arg))

    def test_statements_and_signs(self):
        for name, _, tree in files():
            for node in ast.walk(tree):
                self.assertNotIsInstance(node, BARRED_NODES, name)
                self.assertFalse(isinstance(node, ast.Constant) and isinstance(node.value, (float, complex)), name)
                if isinstance(node, ast.ClassDef):
                    self.assertEqual(node.decorator_list, [], name)

    def test_parameters_and_variables_have_other_names_than_imports_and_classes(self):
        for name, _, tree in files():
            taken = [alias.name for node in tree.body if isinstance(node, ast.ImportFrom) for alias in node.names]
            taken += [node.name for node in tree.body if isinstance(node, ast.ClassDef)]
            for node in ast.walk(tree):
                if isinstance(node, ast.arg):
                    self.assertNotIn(node.arg, taken, name)
                elif isinstance(node, ast.Name) and isinstance(node.ctx, ast.Store):
                    self.assertNotIn(node.id, taken, name)

    def test_own_names_that_are_never_used(self):
        for name, _, tree in files():
            for node in ast.walk(tree):
                if isinstance(node, (ast.FunctionDef, ast.ClassDef)):
                    self.assertNotIn(node.name, NEVER_NAMES, name)
                elif isinstance(node, ast.arg):
                    self.assertNotIn(node.arg, NEVER_NAMES, name)
                elif isinstance(node, ast.Name):
                    self.assertNotIn(node.id, NEVER_NAMES, name)
                    self.assertFalse(node.id == "_" and isinstance(node.ctx, ast.Load), name)

    def test_words_in_strings(self):
        for name, _, tree in files():
            documented = [ast.get_docstring(node, clean=False) for node in ast.walk(tree)
                          if isinstance(node, (ast.Module, ast.ClassDef, ast.FunctionDef))]
            for node in ast.walk(tree):
                if isinstance(node, ast.Constant) and isinstance(node.value, str):
                    self.assertNotIn("%", node.value, name)
                    if node.value not in documented:
                        for word in NEVER_WORDS:
                            self.assertNotIn(word, node.value, name)

    def test_stars_in_calls_stand_before_names(self):
        for name, _, tree in files():
            for node in ast.walk(tree):
                if isinstance(node, ast.Call):
                    for part in node.args:
                        if isinstance(part, ast.Starred):
                            self.assertIsInstance(part.value, (ast.Name, ast.List, ast.Tuple), (name, node.lineno))

    def test_no_generator_expressions_and_no_stored_sets(self):
        for name, _, tree in files():
            allowed = []
            for node in ast.walk(tree):
                self.assertNotIsInstance(node, (ast.GeneratorExp, ast.Set, ast.SetComp), name)
                if isinstance(node, ast.Call) and isinstance(node.func, ast.Name) and node.func.id in ("len", "sorted"):
                    allowed += node.args
            for node in ast.walk(tree):
                if isinstance(node, ast.Call) and isinstance(node.func, ast.Name) and node.func.id == "set":
                    self.assertIn(node, allowed, (name, node.lineno))

    def test_what_is_iterated_at_once(self):
        for name, _, tree in files():
            for node in ast.walk(tree):
                if isinstance(node, ast.Call) and isinstance(node.func, ast.Name) and node.func.id == "reversed":
                    self.assertIn(getattr(getattr(node.args[0], "func", None), "id", ""), ("list", "tuple", "range"), name)
                elif isinstance(node, ast.Starred) and isinstance(node.value, ast.Call):
                    called = getattr(node.value.func, "id", getattr(node.value.func, "attr", ""))
                    self.assertNotIn(called, ("range", "zip", "enumerate", "reversed", "items", "keys", "values"), name)

    def test_methods_that_are_called(self):
        own = {node.name for _, _, tree in files() for node in ast.walk(tree) if isinstance(node, ast.FunctionDef)}
        for name, _, tree in files():
            for node in ast.walk(tree):
                if isinstance(node, ast.Call) and isinstance(node.func, ast.Attribute):
                    self.assertIn(node.func.attr, METHODS | own, (name, node.lineno))
                    self.assertEqual(node.keywords, [], (name, node.lineno))

    def test_is_and_handlers(self):
        for name, _, tree in files():
            for node in ast.walk(tree):
                if isinstance(node, ast.Compare) and isinstance(node.ops[0], (ast.Is, ast.IsNot)):
                    self.assertIn(getattr(node.comparators[0], "value", 0), (None, True, False), name)
                elif isinstance(node, ast.ExceptHandler):
                    self.assertIn(node.type.id, ("KeyError", "BadTable"), name)

    def test_variables_of_inner_comprehensions_are_not_those_of_outer_ones(self):
        kinds = (ast.ListComp, ast.DictComp)
        for name, _, tree in files():
            for node in ast.walk(tree):
                if isinstance(node, kinds):
                    inner = [part for part in ast.walk(node) if isinstance(part, kinds) and part is not node]
                    taken = self.variables(node)
                    for part in inner:
                        self.assertEqual(taken & self.variables(part), set(), (name, node.lineno))

    def variables(self, comprehension):
        """The variables of a comprehension."""
        return {part.id for loop in comprehension.generators for part in ast.walk(loop.target)
                if isinstance(part, ast.Name)}

    def test_imports_name_the_file_that_defines_and_go_one_way(self):
        defined, needs = {}, {}
        for name, _, tree in files():
            module = f"changetables.{name[:-3]}"
            defined[module] = {target.id for node in tree.body if isinstance(node, ast.Assign) for target in node.targets}
            defined[module] |= {node.name for node in tree.body if isinstance(node, (ast.FunctionDef, ast.ClassDef))}
            needs[module] = [node for node in tree.body if isinstance(node, ast.ImportFrom)]
        for module, nodes in needs.items():
            for node in nodes:
                for alias in node.names:
                    self.assertIn(alias.name, defined[node.module], module)
        done = []
        while len(done) < len(needs):
            ready = [module for module in needs if module not in done
                     and all(node.module in done for node in needs[module])]
            self.assertNotEqual(ready, [], needs.keys() - set(done))
            done += ready

    def test_all_that_is_imported_is_used_and_all_functions_are(self):
        used, made = set(), set()
        for name, _, tree in files():
            names = {node.id for node in ast.walk(tree) if isinstance(node, ast.Name)}
            used |= names
            made |= {node.name for node in tree.body if isinstance(node, ast.FunctionDef)}
            for node in ast.walk(tree):
                if isinstance(node, ast.ImportFrom):
                    self.assertLessEqual({alias.name for alias in node.names}, names, name)
        told = {"done", "done_all", "natural", "values_of", "partner", "entry_of", "judge_two", "meet_well", "in_order",
                "all_orders", "judge_any", "good_values", "count_two", "judge_filling", "failing", "friends", "repaired",
                "repaired_any", "effect", "same_lists", "lists_behind", "mirrored", "tables_two", "count_any", "tables_any",
                "together", "needs_hands", "run", "closing", "judge_house", "orders_of", "done_in", "judge_history",
                "taken_back", "kind_back", "list_back", "renamed", "exchanged", "turned_kinds", "turned", "read_kinds",
                "read_table", "read_run", "write_kinds", "write_table", "write_run", "run_tree", "closing_tree",
                "judge_tree"}
        self.assertLessEqual(made, used | told)


if __name__ == "__main__":
    unittest.main()
