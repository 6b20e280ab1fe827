"""How the package is written: the rules of the language that can be told from the code.

Where a rule leaves several forms, the one that the package uses is asked for.
"""

import ast
import builtins
import pathlib
import re
import unittest

PACKAGE = pathlib.Path(__file__).resolve().parent.parent / "fourlooks"
FILES = sorted(PACKAGE.glob("*.py"))
FUNCTIONS = (ast.FunctionDef, ast.Lambda)
# In a process that has shown a value _ is among them.
ALL_BUILTINS = set(dir(builtins)) - {"_"}
BUILTINS = {
    "len", "range", "enumerate", "zip", "min", "max", "sum", "abs", "sorted", "reversed", "int", "str", "bool",
    "list", "tuple", "dict", "set", "isinstance", "ord", "repr", "any", "all", "divmod",
    "Exception", "ValueError", "TypeError", "KeyError", "IndexError", "LookupError",
}
METHODS = {
    "append", "clear", "copy", "count", "endswith", "extend", "find", "get", "index", "insert", "isdecimal", "items",
    "join", "keys", "pop", "remove", "replace", "reverse", "setdefault", "split", "startswith", "strip", "update",
    "values", "add", "discard", "sort", "__init__",
}
BARRED = {
    "register", "mro", "elements", "open", "input", "law", "version_info", "with_traceback", "add_note", "typing",
    "enum", "Enum", "Generic", "Protocol", "ABC", "namedtuple", "NamedTuple", "TypedDict", "abstractmethod",
    "eval", "exec", "exit", "globals", "locals", "vars", "os", "sys", "dir", "id", "help", "hash", "type",
}


def trees():
    return {path.stem: ast.parse(path.read_text("ascii")) for path in FILES}


def bound_names(tree):
    """The names that functions of the tree bind: parameters and targets."""
    found = []
    for node in ast.walk(tree):
        if isinstance(node, ast.arg):
            found.append(node.arg)
        elif isinstance(node, ast.Name) and isinstance(node.ctx, ast.Store):
            found.append(node.id)
    return found


class Files(unittest.TestCase):
    def test_the_folder_holds_plain_files_and_nothing_else(self):
        for path in PACKAGE.iterdir():
            if path.name != "__pycache__":
                self.assertRegex(path.name, r"^([a-z][a-z0-9_]*|__init__)\.py$")
        self.assertIn("__init__.py", [path.name for path in FILES])

    def test_characters_and_sizes(self):
        for path in FILES:
            text = path.read_bytes().decode("ascii")
            self.assertIsNone(re.search(r"[^ -~\n]", text), path.name)
            self.assertTrue(text.endswith("\n"), path.name)
            lines = text.split("\n")[:-1]
            self.assertLessEqual(len(lines), 399, path.name)
            self.assertLessEqual(max(map(len, lines), default=0), 120, path.name)
            for node in ast.walk(ast.parse(text)):
                if isinstance(node, ast.FunctionDef):
                    self.assertLessEqual(node.end_lineno - node.lineno + 1, 40, node.name)


class Modules(unittest.TestCase):
    def test_module_level_holds_docstrings_imports_definitions_and_plain_values(self):
        allowed = (ast.ImportFrom, ast.FunctionDef, ast.ClassDef, ast.Assign, ast.Expr)
        for name, tree in trees().items():
            self.assertIsNotNone(ast.get_docstring(tree), name)
            for at, node in enumerate(tree.body):
                self.assertIsInstance(node, allowed)
                if isinstance(node, ast.Expr):
                    self.assertEqual(at, 0)
                if isinstance(node, ast.Assign):
                    self.assertEqual([type(target) for target in node.targets], [ast.Name])
                    ast.literal_eval(node.value)

    def test_names_are_bound_once_at_module_level(self):
        for name, tree in trees().items():
            bound = []
            for node in tree.body:
                if isinstance(node, ast.ImportFrom):
                    bound += [alias.name for alias in node.names]
                elif isinstance(node, (ast.FunctionDef, ast.ClassDef)):
                    bound.append(node.name)
                elif isinstance(node, ast.Assign):
                    bound.append(node.targets[0].id)
            self.assertEqual(len(bound), len(set(bound)), name)

    def test_imports_name_the_file_that_defines_the_name(self):
        told, known = trees(), {}
        for name, tree in told.items():
            known[name] = {node.name for node in tree.body if isinstance(node, (ast.FunctionDef, ast.ClassDef))}
            known[name] |= {node.targets[0].id for node in tree.body if isinstance(node, ast.Assign)}
        needs = {}
        for name, tree in told.items():
            needs[name] = set()
            places = [at for at, node in enumerate(tree.body) if isinstance(node, ast.ImportFrom)]
            self.assertEqual(places, list(range(1, len(places) + 1)), name)
            for node in ast.walk(tree):
                self.assertNotIsInstance(node, ast.Import)
                if isinstance(node, ast.ImportFrom):
                    self.assertEqual(node.level, 0)
                    head, file = node.module.split(".")
                    self.assertEqual(head, "fourlooks")
                    self.assertTrue(all(alias.asname is None and alias.name in known[file] for alias in node.names))
                    needs[name].add(file)
        while needs:
            free = [name for name in needs if not needs[name] & set(needs)]
            self.assertTrue(free, f"files that import from each other: {sorted(needs)}")
            needs = {name: files for name, files in needs.items() if name not in free}

    def test_imported_names_are_used(self):
        for name, tree in trees().items():
            used = {node.id for node in ast.walk(tree) if isinstance(node, ast.Name)}
            for node in tree.body:
                if isinstance(node, ast.ImportFrom):
                    self.assertLessEqual({alias.name for alias in node.names}, used, name)


class Code(unittest.TestCase):
    def test_no_statement_or_expression_beyond_the_language(self):
        barred = (ast.AsyncFunctionDef, ast.Await, ast.AsyncFor, ast.AsyncWith, ast.Global, ast.Div,
                  ast.GeneratorExp, ast.AnnAssign, ast.Set, ast.MatMult)
        for tree in trees().values():
            for node in ast.walk(tree):
                self.assertNotIsInstance(node, barred)
                if isinstance(node, ast.Constant):
                    self.assertNotIsInstance(node.value, (float, complex, bytes))
                if isinstance(node, (ast.FunctionDef, ast.ClassDef)):
                    self.assertEqual(node.decorator_list, [])
                    self.assertTrue(ast.get_docstring(node) or node.name in ("__init__", "__eq__"), node.name)

    def test_builtins(self):
        for name, tree in trees().items():
            used = {node.id for node in ast.walk(tree) if isinstance(node, ast.Name)}
            self.assertLessEqual(used & ALL_BUILTINS, BUILTINS, name)

    def test_no_name_has_another_meaning(self):
        for name, tree in trees().items():
            taken = ALL_BUILTINS | BARRED
            for node in tree.body:
                if isinstance(node, ast.ImportFrom):
                    taken |= {alias.name for alias in node.names}
                elif isinstance(node, ast.ClassDef):
                    taken.add(node.name)
            own = bound_names(tree)
            own += [node.name for node in ast.walk(tree) if isinstance(node, ast.FunctionDef)]
            self.assertEqual(set(own) & taken, set(), name)
            for each in own:
                self.assertRegex(each, r"^(_|_?[A-Za-z][A-Za-z0-9_]*|__init__|__eq__)$")

    def test_methods_of_builtin_values(self):
        for name, tree in trees().items():
            own = {part.name for node in tree.body if isinstance(node, ast.ClassDef) for part in node.body
                   if isinstance(part, ast.FunctionDef)}
            for node in ast.walk(tree):
                if isinstance(node, ast.Call) and isinstance(node.func, ast.Attribute):
                    self.assertIn(node.func.attr, METHODS | own, name)

    def test_no_name_is_a_method_and_an_attribute(self):
        for name, tree in trees().items():
            for node in tree.body:
                if isinstance(node, ast.ClassDef):
                    methods = [part.name for part in node.body if isinstance(part, ast.FunctionDef)]
                    self.assertEqual(len(methods), len(set(methods)))
                    assigned = {part.attr for part in ast.walk(node) if isinstance(part, ast.Attribute)
                                and isinstance(part.ctx, ast.Store)}
                    self.assertEqual(assigned & (set(methods) | METHODS), set(), name)

    def test_sets_are_only_measured(self):
        for name, tree in trees().items():
            sets = [node for node in ast.walk(tree) if isinstance(node, ast.SetComp) or isinstance(node, ast.Call)
                    and isinstance(node.func, ast.Name) and node.func.id == "set"]
            measured = [node.args[0] for node in ast.walk(tree) if isinstance(node, ast.Call)
                        and isinstance(node.func, ast.Name) and node.func.id in ("len", "sorted") and node.args]
            self.assertTrue(all(node in measured for node in sets), name)

    def test_comprehensions_stand_in_functions(self):
        for tree in trees().values():
            for node in tree.body:
                if not isinstance(node, (ast.FunctionDef, ast.ClassDef)):
                    for part in ast.walk(node):
                        self.assertNotIsInstance(part, (ast.ListComp, ast.DictComp, ast.SetComp) + FUNCTIONS)

    def test_barred_words_are_not_used(self):
        for tree in trees().values():
            for node in ast.walk(tree):
                for word in (getattr(node, "id", None), getattr(node, "attr", None), getattr(node, "arg", None)):
                    self.assertNotIn(word, BARRED)


if __name__ == "__main__":
    unittest.main()
