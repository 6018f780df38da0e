"""The code of the package keeps to LANGUAGE.md, as far as tests/language.py can see."""

import ast
import re
import unittest
from pathlib import Path

from tests.language import breaches, own_methods, whole_package

PACKAGE = Path(__file__).resolve().parent.parent / "tapedonce"

# For each rule that is checked, a text that breaks it and nothing else.
BROKEN = {
    "L2": ["import sys\n", "from os import path\n", "from .numbers import Number\n", "from math import pi\n"],
    "L3": ["print(1)\n", "ROWS = list((1, 2))\n", "for ROW in (1,):\n    pass\n", "COUNT: int = 3\n"],
    "L4": ["def told(x):\n    @told\n    def inner(y):\n        return y\n    return inner\n"],
    "L5": [
        "class Box:\n    def __hash__(self):\n        return 1\n",
        "class Box:\n    def __add__(self, by):\n        return self\n",
        "class Box:\n    def __getitem__(self, at):\n        return at\n",
        "def told(xs):\n    return sorted(xs)\n",
        "def told(xs):\n    return max(xs)\n",
        "class Box:\n    def __add__(self, other):\n        other.many = 1\n        return self\n",
        "class Box:\n    @property\n    def many(self):\n        return 1\n\n    @many.setter\n    def many(self, value):\n"
        "        self.few = value\n\ndef told(box):\n    for k in range(2):\n        box.many = k\n",
        "class Box:\n    def __add__(self, other):\n        x = 1\n        x += other\n        return x\n",
    ],
    "L6": [
        "def told():\n    global COUNT\n    return 1\n",
        "class Box:\n    def __exit__(self, kind, value, trace):\n        self.undo()\n",
        "class Box:\n    def __exit__(self, kind, value, trace):\n        if self.kept:\n            self.many = self.ahead\n",
        "class Box:\n    def __exit__(self, kind, value, trace):\n        self.many = self.ahead + 1\n",
    ],
    "L7": [
        "def told():\n    return 1.5\n",
        "def told(x):\n    return x / 2\n",
        "def told(x):\n    return x % 2\n",
        "def told(xs):\n    return all(x == 1 for x in xs)\n",
    ],
    "L8": ["def told(x):\n    return hash(x)\n", "def told(x):\n    return filter(None, x)\n"],
    "L10": [
        "def told():\n" + "    pass\n" * 40, "# " + "x" * 120 + "\n", "# x\n" * 400,
    ],
    "L14": ["# a\u00e9\n", "def told():\n\treturn 1\n"],
    "L15": ["A = 1\nA = 2\n", "def told(max):\n    return 1\n", "class Box:\n    pass\n\ndef told(Box):\n    pass\n"],
    "L17": ["def told(register):\n    return register\n", "def told():\n    return 'enum'\n"],
    "L19": [
        "def told(x):\n    try:\n        return x[0]\n    except TypeError:\n        return 1\n",
        "def told(x):\n    try:\n        return x[0]\n    except:\n        return 1\n",
        "def told(x):\n    raise x\n",
    ],
    "L20": ["def told(x, y):\n    return x is y\n"],
    "L25": ["def told(x):\n    x.sort()\n", "def told(x):\n    return x.format(1)\n"],
    "L26": ["class Box:\n    def __init__(self):\n        self.items = 1\n"],
    "L27": ["def told(n):\n    return 2 ** n\n", "def told():\n    return '%'\n", "def told():\n    return '\\r'\n"],
    "L28": ["class Box:\n    def __init__(self):\n        return None\n"],
}


def files():
    return sorted(PACKAGE.glob("*.py"))


class Package(unittest.TestCase):

    def test_the_folder_holds_files_with_plain_names_only(self):
        found = [path for path in PACKAGE.iterdir() if path.name != "__pycache__"]
        for path in found:
            with self.subTest(path=path.name):
                self.assertTrue(path.is_file() and re.fullmatch(r"[a-z_][a-z0-9_]*\.py", path.name))
        self.assertIn(PACKAGE / "__init__.py", found)

    def test_no_file_breaks_a_rule(self):
        texts = {path.name: path.read_text(encoding="utf-8") for path in files()}
        own = [name for text in texts.values() for name in own_methods(ast.parse(text))]
        for name, text in texts.items():
            with self.subTest(file=name):
                self.assertEqual(breaches(text, own), [])

    def test_no_names_of_classes_clash(self):
        trees = [ast.parse(path.read_text(encoding="utf-8")) for path in files()]
        self.assertEqual(list(whole_package(trees)), [])

    def test_imports_name_the_file_that_defines_and_make_no_ring(self):
        trees = {path.stem: ast.parse(path.read_text(encoding="utf-8")) for path in files()}
        ways = {name: [] for name in trees}
        for name, tree in trees.items():
            for node in tree.body:
                if isinstance(node, ast.ImportFrom) and node.module.startswith("tapedonce."):
                    source = node.module.removeprefix("tapedonce.")
                    ways[name].append(source)
                    for alias in node.names:
                        with self.subTest(file=name, name=alias.name):
                            self.assertIn(alias.name, self.defined(trees[source]))
        done = []
        while len(done) < len(ways):
            ready = [name for name in ways if name not in done and all(source in done for source in ways[name])]
            self.assertTrue(ready, "a ring of imports")
            done += ready

    def defined(self, tree):
        found = [node.name for node in tree.body if isinstance(node, (ast.FunctionDef, ast.ClassDef))]
        for node in tree.body:
            if isinstance(node, ast.Assign):
                found += [target.id for target in node.targets]
        return found


class Checks(unittest.TestCase):
    """The checks themselves see what they are for."""

    def test_broken_texts_are_seen(self):
        for rule, texts in BROKEN.items():
            for text in texts:
                with self.subTest(rule=rule, text=text[:60]):
                    self.assertIn(rule, [told for _, told in breaches(text)])

    def test_names_that_clash_are_seen(self):
        box = "class Box:\n    @property\n    def many(self):\n        return 1\n"
        for text in (
            "class Other:\n    def many(self):\n        return 1\n", "def told(other):\n    other.many = 1\n",
            "class Other:\n    def few(self):\n        self.few = 1\n", "class Other:\n    def title(self):\n        return 1\n",
            "class Other:\n    @classmethod\n    def few(cls):\n        return 1\n\nclass More:\n    def few(self):\n        return 2\n",
        ):
            self.assertEqual(len(list(whole_package([ast.parse(box), ast.parse(text)]))), 1, text)
        self.assertEqual(list(whole_package([ast.parse(box)])), [])

    def test_a_plain_text_passes(self):
        text = '"""A file."""\n\nfrom tapedonce.numbers import Number\n\nSIZES = (2, 3)\n\n\n'
        text += "def told(xs):\n    return all([int(x) % 2 == 1 for x in xs]) and Number(2, 1).worth is not None\n"
        self.assertEqual(breaches(text), [])


if __name__ == "__main__":
    unittest.main()
