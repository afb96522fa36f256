"""The form of the package's files: LANGUAGE.md, L1 to L28."""

import ast
import pathlib
import re
import unittest

from language import faults, methods_of

PACKAGE = pathlib.Path(__file__).resolve().parent.parent / "calmword"


def files():
    return sorted(path for path in PACKAGE.rglob("*") if path.is_file() and path.parent.name != "__pycache__")


def drawn_from(source):
    return sorted({node.module for node in ast.parse(source).body if isinstance(node, ast.ImportFrom)})


class Form(unittest.TestCase):
    def test_the_folder_holds_files_with_plain_names_alone(self):
        self.assertIn(PACKAGE / "__init__.py", files())
        for path in files():
            self.assertTrue(re.fullmatch(r"__init__\.py|[a-z][a-z0-9_]*\.py", path.name), path)
            self.assertFalse(re.match(r"test|site|conftest", path.name), path)

    def test_each_file_keeps_to_the_rules(self):
        methods = [name for path in files() for name in methods_of(path.read_text(encoding="utf-8"))]
        for path in files():
            self.assertEqual(faults(path.read_text(encoding="utf-8"), methods), [], path.name)

    def test_names_are_drawn_from_the_file_that_defines_them(self):
        for path in files():
            for node in ast.parse(path.read_text(encoding="utf-8")).body:
                if isinstance(node, ast.ImportFrom):
                    source = PACKAGE / (node.module.split(".", 1)[1] + ".py")
                    top = ast.parse(source.read_text(encoding="utf-8")).body
                    defined = [part.name for part in top if isinstance(part, (ast.FunctionDef, ast.ClassDef))]
                    defined += [part.targets[0].id for part in top if isinstance(part, ast.Assign)]
                    for name in node.names:
                        self.assertIn(name.name, defined, path.name)

    def test_no_two_files_draw_from_one_another(self):
        draws = {"calmword." + path.stem: drawn_from(path.read_text(encoding="utf-8")) for path in files()}
        done = []
        while len(done) < len(draws):
            ready = [name for name in draws if name not in done and all(drawn in done for drawn in draws[name])]
            self.assertTrue(ready, "files draw from one another in a ring")
            done.extend(ready)

    def test_what_lies_outside_the_rules_is_found(self):
        outside = [
            "import os", "from calmword import errors", "x = y = 1", "x, y = 1, 2", "x = 1.5", "x = set(y)",
            "x = zip(y)", "x = [a for b in c for a in b]", "x = (a for a in b)", "x = a is b", "x = 2 ** n",
            "x = '5%'", "x = f'{y[0]}'", "x = y.sort()", "_x = 1", "# a type", "x = '\u00e4'", "def f(*xs):\n    pass",
            "def f():\n    print(1)", "def f(id):\n    pass", "for x in y:\n    pass\nelse:\n    pass",
            "def f():\n" + "    pass\n" * 40, "x = {}\ndef f():\n    x[1] = 2", "x = {}\ndef f():\n    return x",
            "x = []\ndef f():\n    x.append(1)", "x = []\ndef f():\n    g(x)", "x = {}\nx = []",
            "def f(x):\n    x.fits(1)"]
        for row in outside:
            self.assertNotEqual(faults('"""A file."""\n' + row + "\n"), [], row)

    def test_what_lies_within_the_rules_is_let_by(self):
        within = [
            "x = {'a': (1,)}\ndef f(y):\n    return x[y] if y in x else x.get(0)",
            "x = [1]\ndef f():\n    return list(x)",
            "class C:\n    def fits(self):\n        return True\ndef f():\n    return C().fits()",
            "def f(xs):\n    return [x for x in xs if x > 1]"]
        for row in within:
            self.assertEqual(faults('"""A file."""\n' + row + "\n"), [], row)

    def test_no_name_is_a_method_in_one_class_and_a_value_in_another(self):
        methods, values = set(), set()
        for path in files():
            for node in ast.walk(ast.parse(path.read_text(encoding="utf-8"))):
                if isinstance(node, ast.ClassDef):
                    methods.update(part.name for part in node.body if isinstance(part, ast.FunctionDef))
                if isinstance(node, ast.Attribute) and isinstance(node.ctx, ast.Store):
                    values.add(node.attr)
        self.assertEqual(methods & values, set())


if __name__ == "__main__":
    unittest.main()
