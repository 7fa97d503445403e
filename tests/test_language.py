"""The package keeps to LANGUAGE.md, as far as tests/language.py sees it."""

import ast
import pathlib
import unittest

from tests.language import faults_of, is_plain_default, own_methods_of

PACKAGE = pathlib.Path(__file__).resolve().parent.parent / "cabinet"
SOURCES = {path.stem: path.read_text() for path in sorted(PACKAGE.glob("*.py"))}


def uses(source):
    return [(node.module.split(".")[1], [alias.name for alias in node.names])
            for node in ast.walk(ast.parse(source)) if isinstance(node, ast.ImportFrom)]


def defined(source):
    names = []
    for node in ast.parse(source).body:
        if isinstance(node, (ast.FunctionDef, ast.ClassDef)):
            names.append(node.name)
        elif isinstance(node, ast.Assign):
            names += [target.id for target in node.targets]
    return names


class Package(unittest.TestCase):
    def test_no_rule_is_broken(self):
        methods = own_methods_of(SOURCES.values())
        for name, source in SOURCES.items():
            self.assertEqual(faults_of(source, methods), [], name)

    def test_no_default_is_other_than_a_plain_value(self):
        for name, source in SOURCES.items():
            for node in ast.walk(ast.parse(source)):
                if isinstance(node, (ast.FunctionDef, ast.Lambda)):
                    for default in node.args.defaults + node.args.kw_defaults:
                        self.assertTrue(is_plain_default(default), (name, node.lineno))

    def test_only_files_of_python_lie_in_it(self):
        others = [path.name for path in PACKAGE.iterdir() if path.suffix != ".py" and path.name != "__pycache__"]
        self.assertEqual(others, [])

    def test_names_come_from_the_file_that_defines_them(self):
        for name, source in SOURCES.items():
            for used, names in uses(source):
                for drawn in names:
                    self.assertIn(drawn, defined(SOURCES[used]), name)

    def test_no_two_files_draw_from_one_another(self):
        left = {name: [used for used, _ in uses(source)] for name, source in SOURCES.items()}
        while left:
            free = [name for name, used in left.items() if not any(other in left for other in used)]
            self.assertTrue(free, left)
            left = {name: used for name, used in left.items() if name not in free}


class Looker(unittest.TestCase):
    def test_it_sees_what_is_ruled_out(self):
        for rule, source in [
                ("L2", "from os import path"), ("L2", "from cabinet.kinds import *"),
                ("L3", "import sys"), ("L3", "if True:\n    pass"), ("L3", "x = 1 + 1"), ("L4", "def f(*a):\n    pass"),
                ("L5", "class A:\n    x = 1"), ("L6", "def f(x):\n    with x:\n        pass"),
                ("L6", "def f(x):\n    'remark'\n    return x"), ("L6", "def f():\n    a = b = 1"),
                ("L7", "def f(x):\n    return x / 2"), ("L7", "x = 1.5"), ("L7", "def f(x):\n    return {y for y in x}"),
                ("L7", "def f(x):\n    return any(y for y in x)"), ("L8", "def f(x):\n    return hash(x)"),
                ("L8", "def f(x):\n    return chr(x)"), ("L10", "x = '" + "a" * 120 + "'"),
                ("L10", "def f():\n" + "    pass\n" * 40), ("L12", "def f(x):\n    _ = x"),
                ("L14", "x = '\xe9'"), ("L15", "def f(map):\n    pass"), ("L15", "x = 1\nx = 2"),
                ("L17", "def f(x):\n    return type(x)"), ("L17", "x = 'of this type'"),
                ("L20", "def f(x, y):\n    return x is y"), ("L21", "def f(x: int):\n    pass"),
                ("L22", "def f(x, y):\n    return sorted(x, reverse=y)"), ("L23", "def f():\n    return range(3)"),
                ("L23", "def f(x):\n    for y in reversed(range(x)):\n        g(y)"),
                ("L23", "def f(x):\n    y = x.items()"), ("L23", "def f(x):\n    return len(x.keys())"),
                ("L23", "def f(x):\n    return [1 for y in zip(x, range(3))]"), ("L25", "def f(x):\n    x.sort()"),
                ("L27", "x = '" + chr(37) + "'")]:
            with self.subTest(source):
                self.assertIn(rule, [found for found, _ in faults_of(source)])

    def test_it_lets_walks_on_the_spot_pass(self):
        for row in ["for y in range(3):\n        g(y)", "return [y for y in enumerate(zip(x, x))]",
                    "return list(reversed(x))", "return max(x.values(), default=0)", "return ', '.join(x.keys())",
                    "return sum(range(x))"]:
            with self.subTest(row):
                self.assertEqual(faults_of("def f(x):\n    " + row), [])

    def rules_of_default(self, default):
        rules = []
        for source in [f"def f(x, y={default}):\n    return x", f"def f(x={default}, y=1):\n    return x",
                       f"class A:\n    def f(self, x={default}):\n        return x",
                       f"def f():\n    return lambda x={default}: x"]:
            rules.append("L4" in [found for found, _ in faults_of(source)])
        return rules

    def test_plain_defaults(self):
        for default in ["0", "7", "-1", "10000", "''", "'a'", "True", "False", "None"]:
            self.assertEqual(self.rules_of_default(default), [False] * 4, default)

    def test_defaults_that_are_no_plain_values(self):
        for default in ["()", "(1,)", "[]", "[1]", "{}", "{1: 2}", "{1}", "NAME", "len", "f()", "list()", "1 + 1",
                        "10 ** 12", "a.b", "a[0]", "-NAME", "-True", "not True", "+1", "1.5", "-1.5", "b''", "...",
                        "f'a'", "lambda: 1", "1 if NAME else 2", "[x for x in NAME]"]:
            self.assertEqual(self.rules_of_default(default), [True] * 4, default)


if __name__ == "__main__":
    unittest.main()
