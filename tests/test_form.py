"""The package keeps to LANGUAGE.md, as far as form.py sees; and form.py sees what it should."""

import pathlib
import unittest

import crosshall
import form

FOLDER = pathlib.Path(crosshall.__file__).parent

# A piece of code that is out, and the rule that says so.
OUT = [
    ("import os\n", "L6"), ("from os import path\n", "L2"), ("from . import values\n", "L2"),
    ("from crosshall.values import *\n", "L2"), ("print(1)\n", "L3"), ("A = 1 + 2\n", "L3"), ("A = 1\nA = 2\n", "L15"),
    ("def f(*a):\n    pass\n", "L4"), ("def f(a, *, b):\n    pass\n", "L4"), ("def f(a: int):\n    pass\n", "L21"),
    ("class A:\n    b = 1\n", "L5"), ("class A(B, C):\n    pass\n", "L5"), ("def f(a):\n    assert a\n", "L6"),
    ("def f(a):\n    a = b = 1\n", "L6"), ("def f(a):\n    'words'\n", "L6"), ("def f(a):\n    return a / 2\n", "L7"),
    ("def f(a):\n    return 1.5\n", "L7"), ("def f(a):\n    return all(b for b in a)\n", "L7"),
    ("def f(a):\n    return {b for b in a}\n", "L7"), ("def f(a):\n    return [*a]\n", "L7"),
    ("def f(a):\n    return f'{a.b}'\n", "L7"), ("def f(a):\n    return (b := a)\n", "L7"),
    ("def f(a):\n    return hash(a)\n", "L8"), ("def f(a):\n    return chr(a)\n", "L8"),
    ("def f(a):\n" + "    a += 1\n" * 40, "L10"), ("# " + "x" * 120 + "\n", "L10"), ("# x\n" * 401, "L10"),
    ("def f(a):\n    _b = a\n", "L12"), ("# \u00e9\n", "L14"), ("A = '\t'\n", "L14"), ("def f(id):\n    pass\n", "L15"),
    ("def f(a):\n    next = a\n", "L15"), ("# a type\n", "L17"), ("# overloaded\n", "L17"),
    ("def f(a):\n    return a.open\n", "L17"), ("def f(a, b):\n    return a is b\n", "L20"),
    ("def f(a):\n    return 2 ** a\n", "L27"), ("A = '%s'\n", "L27"), ("A = '\\x41'\n", "L27"),
    ("def f(a):\n    for b in a:\n        pass\n    else:\n        pass\n", "L6"),
    ("def f(a):\n    try:\n        pass\n    except:\n        pass\n", "L6"),
    ("class A:\n    def f(self):\n        pass\n\n    def f(self):\n        pass\n", "L18"),
    ("def f(a):\n    b = zip(a, a)\n", "L23"), ("def f(a):\n    return a.items()\n", "L23"),
    ("def f(a):\n    return max(1, range(a))\n", "L23"), ("def f(a):\n    return g(enumerate(a))\n", "L23"),
    ("def f(a):\n    for b in a:\n        a.append(b)\n", "L23"),
    ("def f(a):\n    for b in a:\n        a[b] = 1\n", "L23"),
    ("def f(a):\n    for b, c in enumerate(a.b):\n        a.b.pop(c)\n", "L23"),
    ("def f(a):\n    b = set(a)\n", "L24"), ("def f(a):\n    for b in set(a):\n        pass\n", "L24"),
    ("def f(a):\n    return sorted(set(a), key=len)\n", "L24"), ("def f(a, b):\n    return set(a) - set(b)\n", "L24"),
    ("def f(a):\n    return sum(a, key=1)\n", "L22"), ("def f(a):\n    return int('7', base=8)\n", "L22"),
    ("from crosshall.b import c\n\n\ndef f(c):\n    pass\n", "L15"),
    ("class A:\n    pass\n\n\ndef f(b):\n    A = b\n", "L15"),
]
# Code that keeps to the rules.
IN = [
    "def f(a):\n    return [b for b in reversed(a)]\n",
    "def f(a):\n    return sorted(a.items(), key=len, reverse=True)\n",
    "def f(a):\n    return len(set(a)) < 3 or set(a) == set([1])\n",
    "def f(a, b):\n    return b in set(a) - set([1])\n",
    "def f(a):\n    b = []\n    for c in a:\n        b.append(c)\n    return b\n",
    "def f(a):\n    return ', '.join(a.keys())\n", "def f(a):\n    return max(a.values()) + max(a, default=0)\n",
    "def f(a):\n    for b in list(a):\n        a[b] = 1\n",
]
TOGETHER = [
    ({"a.py": "class A:\n    def f(self):\n        self.f = 1\n"}, "L18"),
    ({"a.py": "def f(a):\n    return a.title()\n"}, "L25"),
    ({"a.py": "from crosshall.b import f\n", "b.py": "A = 1\n"}, "L16"),
    ({"a.py": "from crosshall.b import B\nA = 1\n", "b.py": "from crosshall.a import A\nB = 1\n"}, "L16"),
]


class Package(unittest.TestCase):
    def sources(self):
        return {path.name: path.read_text(encoding="utf-8") for path in FOLDER.iterdir() if path.suffix == ".py"}

    def test_files_alone(self):
        others = [path.name for path in FOLDER.iterdir() if path.suffix != ".py" and path.name != "__pycache__"]
        self.assertEqual(others, [])
        self.assertIn("__init__.py", self.sources())

    def test_each_file(self):
        for name, source in self.sources().items():
            self.assertEqual(form.faults(name, source), [])

    def test_files_together(self):
        self.assertEqual(form.package_faults(self.sources()), [])


class Look(unittest.TestCase):
    def test_what_is_out_is_seen(self):
        for source, rule in OUT:
            told = form.faults("a.py", source)
            self.assertTrue(any(f" {rule} " in line for line in told), (source[:60], rule, told))

    def test_what_is_in_is_let_by(self):
        for source in IN:
            self.assertEqual(form.faults("a.py", source), [])

    def test_what_is_out_in_files_together_is_seen(self):
        for sources, rule in TOGETHER:
            told = form.package_faults(sources)
            self.assertTrue(any(rule + " " in line for line in told), (sources, rule, told))

    def test_file_names(self):
        for name in ("Values.py", "test_a.py", "tests.py", "range.py", "enum.py", "site.py"):
            self.assertNotEqual(form.faults(name, ""), [])


if __name__ == "__main__":
    unittest.main()
