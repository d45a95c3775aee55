import ast
import pathlib
import re
import unittest

import oddjoins

from tests.language import Look, draws_in_a_circle, methods_of, names_out, values_of

FOLDER = pathlib.Path(oddjoins.__file__).parent
FILES = {path.stem: path.read_text(encoding="utf-8") for path in sorted(FOLDER.glob("*.py"))}
METHODS = {name for text in FILES.values() for name in methods_of(ast.parse(text))}
VALUES = {name for text in FILES.values() for name in values_of(ast.parse(text))}
ERRORS = [node.name for node in ast.parse(FILES["errors"]).body if isinstance(node, ast.ClassDef)]

RULED_OUT = [
    ("L2", "from os import path\n"),
    ("L3", "import os\n"),
    ("L3", "x = len('a')\n"),
    ("L4", "def f(*xs):\n    return xs\n"),
    ("L5", "class A:\n    b = 1\n"),
    ("L6", "def f(a):\n    assert a\n"),
    ("L6", "def f(a):\n    b, c = a\n    return b + c\n"),
    ("L7", "def f(a):\n    return a / 2\n"),
    ("L7", "def f(a):\n    return sum(b for b in a)\n"),
    ("L8", "def f(a):\n    return hash(a)\n"),
    ("L12", "def f(a):\n    _b = a\n    return _b\n"),
    ("L15", "def f(next):\n    return next\n"),
    ("L17", "def f(a):\n    # its type\n    return a\n"),
    ("L19", "def f(a):\n    try:\n        a()\n    except Exception:\n        return 1\n"),
    ("L20", "def f(a, b):\n    return a is b\n"),
    ("L23", "def f(a):\n    b = zip(a, a)\n    return b\n"),
    ("L24", "def f(a):\n    b = set(a)\n    return b\n"),
    ("L25", "def f(a):\n    a.sort()\n"),
    ("L27", "def f(a):\n    return 2 ** a\n"),
]


class Language(unittest.TestCase):

    def test_nothing_else_lies_in_the_package(self):
        for path in FOLDER.iterdir():
            if path.name != "__pycache__":
                self.assertTrue(path.is_file() and re.fullmatch(r"[a-z][a-z0-9_]*\.py|__init__\.py", path.name), path)

    def test_each_file_keeps_to_the_rules(self):
        for name, text in FILES.items():
            self.assertEqual(Look("oddjoins", name, text, ERRORS, METHODS).look(), [])

    def test_methods_and_values_have_names_of_their_own(self):
        self.assertEqual(names_out(METHODS, VALUES), [])
        self.assertEqual(names_out({"say", "sort", "get"}, {"word", "say", "items", "count"}), ["items", "say", "sort"])

    def test_imports_come_from_the_very_file_and_never_in_a_circle(self):
        draws = {}
        for name, text in FILES.items():
            draws[name] = []
            for node in ast.parse(text).body:
                if isinstance(node, ast.ImportFrom):
                    source = node.module.split(".", 1)[1]
                    draws[name].append(source)
                    tops = Look("oddjoins", source, FILES[source], ERRORS).tops
                    for alias in node.names:
                        self.assertIn(alias.name, tops)
        self.assertFalse(draws_in_a_circle(draws))
        self.assertEqual(draws["__init__"], [])

    def test_each_import_is_used(self):
        for name, text in FILES.items():
            look = Look("oddjoins", name, text, ERRORS)
            used = {node.id for node in ast.walk(look.tree) if isinstance(node, ast.Name)}
            self.assertEqual(set(look.imports) - used, set(), name)

    def test_a_helper_stands_once_in_the_package(self):
        tops = [top for name, text in FILES.items() for top in Look("oddjoins", name, text, ERRORS).tops]
        self.assertEqual(sorted(tops), sorted(set(tops)))

    def test_what_is_ruled_out_is_seen(self):
        for rule, text in RULED_OUT:
            said = Look("oddjoins", "sample", text, ERRORS).look()
            self.assertTrue(any(rule in row[0] for row in said), (rule, said))
