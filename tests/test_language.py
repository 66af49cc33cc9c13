"""Some rules of the language that a look at the package's files can tell."""

import ast
import builtins
import pathlib
import re
import unittest

PACKAGE = pathlib.Path(__file__).resolve().parent.parent / "farfiles"

LIBRARY = ("heapq", "math", "itertools", "collections")

ALLOWED_BUILTINS = """
    len range enumerate zip min max sum abs sorted reversed int str bool bytes list tuple
    dict set frozenset isinstance ord repr any all divmod pow getattr hasattr setattr iter
    next map super property staticmethod classmethod type object float NotImplemented
    Exception ValueError TypeError KeyError IndexError LookupError ZeroDivisionError
    ArithmeticError OverflowError RuntimeError NotImplementedError AttributeError
    StopIteration
""".split()


def files():
    return [path for path in PACKAGE.rglob("*") if "__pycache__" not in path.parts]


def sources():
    return [(path, path.read_bytes()) for path in files() if path.suffix == ".py"]


def trees():
    return [(path, ast.parse(text)) for path, text in sources()]


def nodes(kinds):
    for path, tree in trees():
        for node in ast.walk(tree):
            if isinstance(node, kinds):
                yield path, node


class LanguageTest(unittest.TestCase):
    def test_the_package_holds_nothing_but_plain_files(self):
        self.assertTrue((PACKAGE / "__init__.py").is_file())
        for path in files():
            with self.subTest(path=path):
                self.assertTrue(path.is_dir() or re.fullmatch("[a-z0-9_]+[.]py", path.name))

    def test_sizes_of_files_and_lines(self):
        for path, text in sources():
            lines = text.split(b"\n")
            with self.subTest(path=path):
                self.assertLessEqual(len(lines), 399)
                self.assertLessEqual(max(map(len, lines)), 120)

    def test_sizes_of_functions(self):
        for path, node in nodes(ast.FunctionDef):
            with self.subTest(path=path, function=node.name):
                self.assertLessEqual(node.end_lineno - node.lineno + 1, 40)

    def test_characters(self):
        for path, text in sources():
            with self.subTest(path=path):
                self.assertRegex(text, rb"\A[ -~\n]*\Z")

    def test_strings_without_the_percent_sign(self):
        for path, node in nodes(ast.Constant):
            with self.subTest(path=path, line=node.lineno):
                self.assertNotIn("%", str(node.value))

    def test_imports(self):
        for path, node in nodes((ast.Import, ast.ImportFrom)):
            with self.subTest(path=path, line=node.lineno):
                self.assertIsInstance(node, ast.ImportFrom)
                self.assertEqual(node.level, 0)
                if node.module not in LIBRARY:
                    self.check_import(node)

    def check_import(self, node):
        """Each name is imported from the very file that defines it."""
        self.assertRegex(node.module, "^farfiles[.]")
        tree = dict(trees())[PACKAGE.parent / (node.module.replace(".", "/") + ".py")]
        defined = [row.name for row in tree.body if hasattr(row, "name")]
        for row in tree.body:
            if isinstance(row, ast.Assign):
                defined += [target.id for target in row.targets]
        for alias in node.names:
            self.assertIn(alias.name, defined)

    def test_each_import_is_used(self):
        for path, tree in trees():
            used = {node.id for node in ast.walk(tree) if isinstance(node, ast.Name)}
            for node in ast.walk(tree):
                if isinstance(node, ast.ImportFrom):
                    self.assertLessEqual({alias.name for alias in node.names}, used, path)

    def test_no_two_files_import_from_each_other(self):
        wanted = {path.stem: set() for path, _ in trees()}
        for path, node in nodes(ast.ImportFrom):
            if node.module not in LIBRARY:
                wanted[path.stem].add(node.module.split(".")[-1])
        # Take away, again and again, what imports nothing that is left.
        while wanted:
            free = [name for name, others in wanted.items() if not others & set(wanted)]
            self.assertNotEqual(free, [], sorted(wanted))
            for name in free:
                del wanted[name]

    def test_builtins(self):
        for path, node in nodes(ast.Name):
            if hasattr(builtins, node.id):
                with self.subTest(path=path, line=node.lineno):
                    self.assertIn(node.id, ALLOWED_BUILTINS)
                    self.assertIsInstance(node.ctx, ast.Load)

    def test_names(self):
        for path, node in nodes((ast.FunctionDef, ast.ClassDef, ast.arg)):
            name = node.arg if isinstance(node, ast.arg) else node.name
            with self.subTest(path=path, name=name):
                self.assertRegex(name, r"\A(_?[A-Za-z][A-Za-z0-9_]*|__[a-z]+__|_)\Z")

    def test_nothing_but_methods_has_a_builtins_name(self):
        for path, tree in trees():
            arguments = [node.arg for node in ast.walk(tree) if isinstance(node, ast.arg)]
            for name in [*arguments, *[row.name for row in tree.body if hasattr(row, "name")]]:
                with self.subTest(path=path, name=name):
                    self.assertFalse(hasattr(builtins, name))

    def test_neither_floats_nor_true_division(self):
        for path, node in nodes(ast.Constant):
            self.assertNotIsInstance(node.value, (float, complex), (path, node.lineno))
        for path, node in nodes((ast.BinOp, ast.AugAssign)):
            self.assertNotIsInstance(node.op, ast.Div, (path, node.lineno))

    def test_no_variable_has_the_name_of_a_class_or_an_import_of_its_file(self):
        for path, tree in trees():
            taken = {row.name for row in tree.body if isinstance(row, ast.ClassDef)}
            for row in tree.body:
                if isinstance(row, ast.ImportFrom):
                    taken |= {alias.name for alias in row.names}
            for node in ast.walk(tree):
                if isinstance(node, ast.arg):
                    self.assertNotIn(node.arg, taken, (path, node.lineno))
                elif isinstance(node, ast.Name) and isinstance(node.ctx, ast.Store):
                    self.assertNotIn(node.id, taken, (path, node.lineno))

    def test_attributes_are_assigned_through_local_names(self):
        for path, node in nodes(ast.Attribute):
            if isinstance(node.ctx, ast.Store):
                self.assertIsInstance(node.value, ast.Name, (path, node.lineno))

    def test_no_name_is_a_method_and_an_attribute(self):
        methods, attributes = set(), set()
        for _, node in nodes(ast.ClassDef):
            methods |= {row.name for row in node.body if isinstance(row, ast.FunctionDef)}
        for _, node in nodes(ast.Attribute):
            if isinstance(node.ctx, ast.Store):
                attributes.add(node.attr)
        self.assertEqual(methods & attributes, set())
        for kind in (str, int, list, dict, set, bytes, tuple):
            self.assertEqual((methods | attributes) & set(dir(kind)), {"__init__"} & methods)

    def test_neither_sets_nor_generators(self):
        for path, node in nodes((ast.Set, ast.SetComp, ast.GeneratorExp, ast.Yield, ast.Lambda)):
            self.fail((path, node.lineno))

    def test_is_stands_beside_none_true_and_false_alone(self):
        for path, node in nodes(ast.Compare):
            for sign, other in zip(node.ops, node.comparators):
                if isinstance(sign, (ast.Is, ast.IsNot)):
                    self.assertIn(getattr(other, "value", 0), (None, True, False), (path, node.lineno))
                    self.assertIsInstance(other, ast.Constant, (path, node.lineno))


if __name__ == "__main__":
    unittest.main()
