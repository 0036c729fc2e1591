import pathlib
import re
import unittest

from language import defined_in, drawn_from, faults_of

PACKAGE = pathlib.Path(__file__).resolve().parent.parent / "gaugewright"


def sources():
    return {path.stem: path.read_text(encoding="utf-8") for path in sorted(PACKAGE.glob("*.py"))}


class Package(unittest.TestCase):
    def test_only_plain_files_lie_in_it(self):
        for path in PACKAGE.rglob("*"):
            if "__pycache__" not in path.parts:
                self.assertTrue(path.is_file())
                self.assertRegex(path.name, r"\A(__init__|__main__|[a-z][a-z0-9_]*)\.py\Z")
        self.assertTrue((PACKAGE / "__init__.py").is_file())

    def test_each_file_keeps_to_the_language(self):
        for name, source in sources().items():
            with self.subTest(file=name):
                self.assertEqual(faults_of(source), [])

    def test_names_are_drawn_from_where_they_are_defined(self):
        files = sources()
        for name, source in files.items():
            for file, names in drawn_from(source).items():
                with self.subTest(file=name, drawn=file):
                    self.assertEqual(set(names) - set(defined_in(files[file])), set())

    def test_no_two_files_draw_from_one_another(self):
        left = {name: list(drawn_from(source)) for name, source in sources().items()}
        while left:
            free = [name for name, drawn in left.items() if not set(drawn) & set(left)]
            self.assertTrue(free, left)
            left = {name: drawn for name, drawn in left.items() if name not in free}

    def test_the_head_of_the_package_draws_from_nothing(self):
        self.assertEqual(drawn_from(sources()["__init__"]), {})


class Faults(unittest.TestCase):
    def test_what_keeps_to_the_language(self):
        for source in [
            "", '"""A head."""\n', "MOST = -3\nNAMES = ('a', 'b')\n",
            "from gaugewright.errors import NoSet\n\n\ndef first(things):\n    raise NoSet()\n",
            "def least(things):\n    return min([thing[0] for thing in things if thing], default=None)\n",
            "def great(thing):\n    return thing is not None and thing >= 10 ** 60\n",
            "class Kept:\n    def __init__(self):\n        self.rows = []\n",
            "def first(a):\n    return sorted(a.items(), key=len) + list(range(3)) + sorted(set(a))\n",
            "def first(a):\n    return [isinstance(b, (int, str)) for b, c in zip(a, a) if b in {1, c}]\n",
            "def first(a):\n    return a\n\n\nDEEDS = {'a': first}\n\n\ndef next_one(a):\n    return DEEDS[a](a)\n",
            "ROWS = [1, (2, 3)]\n\n\ndef first(a):\n    return a in ROWS or list(ROWS) == a or ROWS.index(a)\n",
            "class Kept:\n    def count(self):\n        return 1\n\n\ndef first(a):\n    return isinstance(a, Kept)\n",
        ]:
            self.assertEqual(faults_of(source), [])

    def test_what_does_not(self):
        for rule, source in [
            ("L2", "from os import path\n"), ("L2", "from .errors import NoSet\n"), ("L6 L7", "import re\n"),
            ("L3", "MOST = 10 ** 60\n"), ("L3", "print(1)\n"), ("L15", "MOST = 1\nMOST = 2\n"),
            ("L4", "def first(*things):\n    return 1\n"), ("L10", "def long(a):\n" + "    a = 1\n" * 40),
            ("L10", "MOST = 1  # " + "x" * 120 + "\n"), ("L5", "class Kept:\n    most = 3\n"),
            ("L6", "def first(a):\n    b = c = a\n    return b\n"), ("L6 L7", "def first(a):\n    yield a\n"),
            ("L6 L7", "def first(a):\n    assert a\n"), ("L6 L7", "def first(a):\n    return {b for b in a}\n"),
            ("L7", "def half(a):\n    return a / 2\n"), ("L7", "HALF = 0.5\n"),
            ("L8", "def first(a):\n    return iter(a)\n"), ("L12", "def first(a):\n    for _ in a:\n        pass\n"),
            ("L14", "NAME = '\u00e9'\n"), ("L15", "def first(hash):\n    return hash\n"),
            ("L15", "from gaugewright.reach import reach\n\n\ndef first(a):\n    reach = a\n    return reach\n"),
            ("L17", "def first(a):\n    return id(a)\n"), ("L17", "# this type\n"),
            ("L19", "def first(a):\n    try:\n        return a\n    except TypeError:\n        return 1\n"),
            ("L20", "def alike(a, b):\n    return a is b\n"), ("L25", "def first(a):\n    a.sort()\n"),
            ("L22", "def first(a):\n    kept = len\n    return kept(a)\n"),
            ("L22", "def first(a):\n    return list(a, key=len)\n"),
            ("L23", "def first(a):\n    kept = range(a)\n    return kept\n"),
            ("L23", "def first(a):\n    return reversed(range(a))\n"),
            ("L23", "def first(a):\n    a.extend(zip(a, a))\n"), ("L23", "def first(a):\n    return a.items()\n"),
            ("L24", "def first(a):\n    kept = set(a)\n    return kept\n"),
            ("L24", "def first(a):\n    return {a, 1}\n"),
            ("L13", "def first(a):\n    return sorted({1, 2, a})\n"),
            ("L15", "ROWS = [[1], 2]\n"), ("L15", "ROWS = {1: (2, [3])}\n"),
            ("L15", "ROWS = [1]\n\n\ndef first(a):\n    ROWS.append(a)\n"),
            ("L15", "ROWS = [1]\n\n\ndef first(a):\n    ROWS[0] = a\n"),
            ("L15", "ROWS = [1]\n\n\ndef first(a):\n    return ROWS\n"),
            ("L18", "class Kept:\n    pass\n\n\ndef first(a):\n    return [Kept]\n"),
            ("L18", "from gaugewright.errors import NoSet\n\n\ndef first(a):\n    kept = NoSet\n    return kept\n"),
            ("L21", "def first(a: int):\n    return a\n"), ("L21", "def first(a) -> int:\n    return a\n"),
            ("L26", "class Kept:\n    def __init__(self):\n        self.items = []\n"),
            ("L26", "class Kept:\n    def sort(self):\n        return 1\n"),
            ("L27", "def power(a):\n    return 2 ** a\n"), ("L27", "WORDS = 'a %'\n"),
        ]:
            with self.subTest(source=source):
                self.assertTrue(any(re.match(rule + r"\b", fault) for fault in faults_of(source)), faults_of(source))


if __name__ == "__main__":
    unittest.main()
