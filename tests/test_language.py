"""The rules of the language of the package that a plain look at its text can hold it to."""

import ast
import builtins
import io
import os
import tokenize
import unittest

FOLDER = os.path.join(os.path.dirname(os.path.dirname(os.path.abspath(__file__))), "heldplaces")
LIBRARY = {"math": {"gcd"}}
CALLED = {"len", "range", "enumerate", "zip", "min", "max", "sum", "abs", "sorted", "int", "str", "bool", "list", "tuple",
          "dict", "isinstance", "any", "all", "super", "TypeError"}
METHODS = {"append", "copy", "count", "endswith", "extend", "get", "index", "insert", "isdigit", "items", "join", "keys",
           "pop", "remove", "reverse", "setdefault", "split", "startswith", "update", "values", "bit_length"}
BARRED = {"type", "typing", "enum", "Enum", "Generic", "Protocol", "ABC", "namedtuple", "register", "mro", "elements",
          "open", "input", "law", "eval", "exec", "exit", "id", "globals", "locals", "vars", "dir", "quit", "property"}
NODES = (ast.GeneratorExp, ast.Yield, ast.YieldFrom, ast.Global, ast.Try, ast.AsyncFunctionDef, ast.With, ast.Match,
         ast.Div, ast.SetComp, ast.Set, ast.Lambda, ast.JoinedStr, ast.AnnAssign, ast.NamedExpr, ast.Pow)


def sources():
    for name in sorted(os.listdir(FOLDER)):
        if name != "__pycache__":
            with open(os.path.join(FOLDER, name), encoding="utf-8") as file:
                yield name, file.read()


def trees():
    return list(TREES)


TREES = [(name, ast.parse(text)) for name, text in sources()]


def strings_of(tree):
    """The string literals that are no docstrings."""
    docs = set()
    for node in ast.walk(tree):
        if isinstance(node, (ast.Module, ast.ClassDef, ast.FunctionDef)) and ast.get_docstring(node) is not None:
            docs.add(id(node.body[0].value))
    return [node.value for node in ast.walk(tree)
            if isinstance(node, ast.Constant) and isinstance(node.value, str) and id(node) not in docs]


class TestLanguage(unittest.TestCase):
    def test_files(self):
        names = [name for name, _ in sources()]
        self.assertTrue(all(name.endswith(".py") and name == name.lower() for name in names))
        self.assertLessEqual(len(names), 100)

    def test_sizes_and_signs(self):
        for name, text in sources():
            self.assertLessEqual(text.count("\n"), 399, name)
            self.assertTrue(all(len(line) <= 120 for line in text.split("\n")), name)
            self.assertTrue(all(sign == "\n" or " " <= sign <= "~" for sign in text), name)
            for node in ast.walk(ast.parse(text)):
                if isinstance(node, ast.FunctionDef):
                    self.assertLessEqual(node.end_lineno - node.lineno + 1, 40, (name, node.name))

    def test_nodes(self):
        for name, tree in trees():
            for node in ast.walk(tree):
                self.assertNotIsInstance(node, NODES, (name, getattr(node, "lineno", 0)))
                if isinstance(node, (ast.Is, ast.IsNot)):
                    continue
                if isinstance(node, ast.Compare) and isinstance(node.ops[0], (ast.Is, ast.IsNot)):
                    self.assertIn(ast.unparse(node.comparators[0]), ("None", "True", "False"), name)
                if isinstance(node, ast.FunctionDef):
                    self.assertFalse(node.returns, (name, node.name))
                    self.assertTrue([ast.unparse(one) for one in node.decorator_list] in ([], ["classmethod"]), (name, node.name))

    def test_imports(self):
        reached = {}
        for name, tree in trees():
            module = "heldplaces." + name[:-3]
            reached[module] = set()
            for node in ast.walk(tree):
                self.assertNotIsInstance(node, ast.Import)
                if isinstance(node, ast.ImportFrom):
                    self.assertIn(node, tree.body)
                    if node.module in LIBRARY:
                        self.assertTrue({one.name for one in node.names} <= LIBRARY[node.module])
                    else:
                        self.assertTrue(node.module.startswith("heldplaces.") and node.level == 0)
                        reached[module].add(node.module)
                        self.assert_defined(node)
        while reached:
            ready = [one for one in reached if not reached[one] & set(reached)]
            self.assertTrue(ready, "files import from each other")
            for one in ready:
                del reached[one]

    def assert_defined(self, node):
        tree = dict(trees())[node.module.split(".")[1] + ".py"]
        there = {one.name for one in tree.body if isinstance(one, (ast.FunctionDef, ast.ClassDef))}
        there |= {target.id for one in tree.body if isinstance(one, ast.Assign) for target in one.targets}
        for one in node.names:
            self.assertIn(one.name, there)
            self.assertIsNone(one.asname)

    def test_names(self):
        own = set(dir(builtins))
        for name, tree in trees():
            imported = {one.name for node in tree.body if isinstance(node, ast.ImportFrom) for one in node.names}
            imported |= {node.name for node in tree.body if isinstance(node, ast.ClassDef)}
            for node in ast.walk(tree):
                bound = None
                if isinstance(node, ast.arg):
                    bound = node.arg
                elif isinstance(node, ast.Name) and isinstance(node.ctx, ast.Store):
                    bound = node.id
                elif isinstance(node, (ast.FunctionDef, ast.ClassDef)):
                    self.assertNotIn(node.name, own, name)
                if bound is not None:
                    self.assertNotIn(bound, own, name)
                    self.assertNotIn(bound, imported, name)
                    self.assertTrue(bound == "_" or not bound.startswith("_"), (name, bound))
                if isinstance(node, ast.Name) and isinstance(node.ctx, ast.Load):
                    self.assertNotEqual(node.id, "_", name)

    def test_unused_imports_and_single_binding(self):
        for name, tree in trees():
            used = {node.id for node in ast.walk(tree) if isinstance(node, ast.Name)}
            bound = []
            for node in tree.body:
                if isinstance(node, ast.ImportFrom):
                    for one in node.names:
                        self.assertIn(one.name, used, name)
                        bound.append(one.name)
                elif isinstance(node, (ast.FunctionDef, ast.ClassDef)):
                    bound.append(node.name)
                elif isinstance(node, ast.Assign):
                    bound += [target.id for target in node.targets]
            self.assertEqual(len(bound), len(set(bound)), name)

    def test_class_methods(self):
        made, other = set(), set()
        for name, tree in trees():
            for node in ast.walk(tree):
                if isinstance(node, ast.FunctionDef):
                    (made if node.decorator_list else other).add(node.name)
                    if node.decorator_list:
                        self.assert_only_called(node)
                elif isinstance(node, ast.Attribute) and isinstance(node.ctx, ast.Store):
                    other.add(node.attr)
        self.assertFalse(made & other)

    def assert_only_called(self, node):
        first = node.args.args[0].arg
        self.assertEqual(first, "cls")
        called = [one.func for one in ast.walk(node) if isinstance(one, ast.Call)]
        for one in ast.walk(node):
            if isinstance(one, ast.Name) and one.id == first:
                self.assertIn(one, called)

    def test_calls(self):
        for name, tree in trees():
            for node in ast.walk(tree):
                if isinstance(node, ast.Call) and isinstance(node.func, ast.Name):
                    if node.func.id in dir(builtins):
                        self.assertIn(node.func.id, CALLED, name)
                if isinstance(node, ast.Attribute) and node.attr in dir(str) + dir(list) + dir(dict) + dir(int) + dir(set):
                    if node.attr != "__init__":
                        self.assertIn(node.attr, METHODS, (name, node.lineno))

    def test_words(self):
        for name, text in sources():
            for token in tokenize.generate_tokens(io.StringIO(text).readline):
                if token.type == tokenize.NAME:
                    self.assertNotIn(token.string, BARRED, name)
            for value in strings_of(ast.parse(text)):
                self.assertNotIn("%", value, name)
                self.assertFalse(set(value.split(" ")) & {"type", "enum", "typing"}, name)
                self.assertFalse(value.startswith("__"), name)

    def test_tables_are_not_passed_on(self):
        for name, tree in trees():
            tables = {target.id for node in tree.body if isinstance(node, ast.Assign) for target in node.targets
                      if isinstance(node.value, (ast.Dict, ast.List))}
            for node in ast.walk(tree):
                if isinstance(node, ast.Call) and ast.unparse(node.func) not in ("dict", "list", "len", "sorted"):
                    for one in node.args:
                        self.assertFalse(isinstance(one, ast.Name) and one.id in tables, (name, node.lineno))

    def test_attributes_are_no_methods(self):
        methods, attributes, read = set(), set(), set()
        for _, tree in trees():
            for node in ast.walk(tree):
                if isinstance(node, ast.ClassDef):
                    methods |= {one.name for one in node.body if isinstance(one, ast.FunctionDef)}
                elif isinstance(node, ast.Attribute):
                    (attributes if isinstance(node.ctx, ast.Store) else read).add(node.attr)
        self.assertFalse(attributes & methods)
        self.assertFalse(read - attributes - methods - METHODS)

    def test_classes(self):
        for name, tree in trees():
            for node in tree.body:
                if isinstance(node, ast.ClassDef):
                    methods = {one.name for one in node.body if isinstance(one, ast.FunctionDef)}
                    self.assertTrue(methods <= {"__init__", "__eq__", "__len__", "__getitem__", "__iter__"} or
                                    not any(one.startswith("_") for one in methods - {"__init__", "__eq__"}), name)
                    if "__getitem__" in methods:
                        self.assertIn("__iter__", methods)


if __name__ == "__main__":
    unittest.main()
