"""The package keeps to the language rules that a program can check, and the checks find what breaks them."""

import unittest
from pathlib import Path

from tests.rules import check_package

PACKAGE = Path(__file__).parent.parent / "bindspan"

# What a file of the package may contain, and must not be reported.
CLEAN = '''"""A file."""

from bindspan.other import Thing

MOST = 10 ** 60
TABLE = {"a": ("b",)}


class Box:
    """A box."""

    def __init__(self, rows=()):
        self.rows = list(rows)
        self.many = 0

    @classmethod
    def of(cls, *rows):
        return cls(rows)

    def __len__(self):
        return len(self.rows)

    def __iter__(self):
        return iter(self.rows)

    def __eq__(self, other):
        return isinstance(other, Box) and self.rows == other.rows

    def __or__(self, other):
        rows = list(self.rows)
        rows.append(other)
        return Box(rows)

    @property
    def width(self):
        return len(self.rows)

    @width.setter
    def width(self, value):
        self.rows = self.rows[:value]

    def __enter__(self):
        self.before = self.rows
        return self

    def __exit__(self, kind, value, trace):
        self.rows = self.before

    def during(self, action):
        before, many = self.rows, self.many
        self.many += 1
        try:
            return action(self, lambda: self.width, sorted(before, key=self.told))
        finally:
            self.rows = before
            self.many = many

    def told(self, row):
        return row


def told(box, word):
    return box


ACTIONS = {"told": told}


def steps(many):
    for at, _ in enumerate(range(many), start=1):
        yield Thing(at)


def widen(box, width):
    before, many = box.width, box.many
    try:
        box.width = width
    finally:
        box.width, box.many = before, many


def seen(words):
    return sorted(set(words) - set(TABLE.get("a"))), [at for at in steps(MOST)]
'''

# Snippets that break a rule, each with the rule.
BROKEN = [
    ("L10", "def f():\n" + "    pass\n" * 40),
    ("L10", "A = 0\n\n" * 200),
    ("L10", "A = '" + "a" * 120 + "'\n"),
    ("L14", "A = 0\t\n"),
    ("L14", "# \u00e9\n"),
    ("L27", "A = '\\r'\n"),
    ("L27", "A = 'a%'\n"),
    ("L27", "A = '__odd__'\n"),
    ("L27", "A = 'a._'\n"),
    ("L27", "A = 'f_code'\n"),
    ("L27", "def f(n):\n    return 2 ** n\n"),
    ("L27", "def f(n):\n    return f'''\n{n}'''\n"),
    ("L12", "# _wall\n"),
    ("L12", "def f(__x):\n    return __x\n"),
    ("L12", "_record = 1\n"),
    ("L12", "class _Box:\n    pass\n"),
    ("L12", "def f(xs):\n    return [_ for _ in xs]\n"),
    ("L17", "# class=Meta\n"),
    ("L17", "A = 'an enum'\n"),
    ("L17", "def f(x):\n    return x.register\n"),
    ("L17", "def f(open):\n    return open\n"),
    ("L17", "def f(vars):\n    return vars\n"),
    ("L17", "class Box:\n    def eval(self):\n        return 1\n"),
    ("L15", "def f(hash):\n    return hash\n"),
    ("L15", "def f():\n    filter = 1\n    return filter\n"),
    ("L15", "class Box:\n    pass\n\n\ndef f(Box):\n    return Box\n"),
    ("L15", "A = 0\nA = 1\n"),
    ("L15", "A = {'a': []}\n"),
    ("L15", "A = {}\n\n\ndef f():\n    return A\n"),
    ("L15", "A = []\n\n\ndef f():\n    A.append(1)\n"),
    ("L15", "A = []\n\n\ndef f():\n    A[0] = 1\n"),
    ("L5", "class Box:\n    def __hash__(self):\n        return 1\n"),
    ("L5", "class Box:\n    def __or__(self, other, more=1):\n        return (other, more)\n"),
    ("L5", "class Box:\n    def __getitem__(self, at):\n        return at\n"),
    ("L5", "class Box:\n    def __iter__(self):\n        rows = []\n        return iter(rows)\n"),
    ("L5", "def f(xs):\n    return list(reversed(xs))\n"),
    ("L8", "def f(xs):\n    return hash(xs)\n"),
    ("L8", "def f(xs):\n    return chr(xs)\n"),
    ("L8", "def f(xs):\n    print(xs)\n"),
    ("L3", "A, B = 0, 1\n"),
    ("L3", "A = len('a')\n"),
    ("L3", "for _ in (1, 2):\n    pass\n"),
    ("L2", "A = 0\nfrom bindspan.other import Thing\n"),
    ("L2", "from collections import Counter\n"),
    ("L2", "from .other import Thing\n"),
    ("L16", "import bindspan\n"),
    ("L16", "from bindspan.other import nothing\n"),
    ("L4", "def f():\n    @f\n    def g():\n        pass\n    g()\n"),
    ("L4", "def f(xs=[]):\n    return xs\n"),
    ("L18", "class Box:\n    def f(self):\n        pass\n\n    def f(self):\n        pass\n"),
    ("L18", "class Box:\n    def rows(self):\n        self.rows = 1\n"),
    ("L18", "def f(x):\n    return x.nothing\n"),
    ("L26", "def f(x):\n    x.items = 1\n"),
    ("L6", "def f():\n    global A\n    A = 1\n"),
    ("L6", "async def f():\n    pass\n"),
    ("L7", "def f(a):\n    return a / 2\n"),
    ("L7", "def f():\n    return 0.5\n"),
    ("L7", "def f(xs):\n    return any(x for x in xs)\n"),
    ("L20", "def f(a, b):\n    return a is b\n"),
    ("L19", "def f(a):\n    raise a\n"),
    ("L19", "def f(a):\n    try:\n        a[0]\n    except IndexError:\n        pass\n"),
    ("L19", "def f(a):\n    try:\n        a[0]\n    except Exception:\n        pass\n"),
    ("L22", "def f(a):\n    return a.split(sep=' ')\n"),
    ("L22", "def f(a):\n    return int(a, base=2)\n"),
    ("L25", "def f(a):\n    a.sort()\n"),
    ("L25", "def f(a):\n    return a.format(1)\n"),
    ("L23", "def f(a, b):\n    return zip(a, b)\n"),
    ("L23", "def f(a):\n    return list(a.keys()) == a.keys()\n"),
    ("L23", "def f(a):\n    yield a\n\n\ndef g():\n    return f(1)\n"),
    ("L23", "def f(a):\n    yield a\n\n\ndef g():\n    return f\n"),
    ("L24", "def f(a):\n    return set(a)\n"),
    ("L24", "def f(a):\n    for x in set(a):\n        f(x)\n"),
    ("L24", "def f(a):\n    return frozenset(a)\n"),
    ("L28", "class Box:\n    def __init__(self):\n        return None\n"),
    ("L28", "class Box:\n    def __len__(self):\n        return self.f()\n\n    def f(self):\n        return 1\n"),
    ("L28", "class Box:\n    def __str__(self):\n        self.a = 1\n        return ''\n"),
    ("L6", "def f(xs):\n    try:\n        xs[0] = 1\n    finally:\n        f(xs)\n"),
    ("L6", "def f(xs):\n    try:\n        f(xs)\n    finally:\n        xs[0] = 1\n"),
    ("L6", "def f(xs):\n    try:\n        f(xs)\n    finally:\n        return xs\n"),
    ("L6", "def f(x):\n    try:\n        f(x)\n    finally:\n        x.a = -1\n"),
    ("L6", "def f(x):\n    try:\n        f(x)\n    finally:\n        x.a -= x\n"),
    ("L6", "def f(x):\n    try:\n        f(x)\n    finally:\n        x.a, x[0] = x, x\n"),
    ("L6", "def f(x):\n    try:\n        f(x)\n    finally:\n        x.a -= 1\n"),
    ("L6", "def f(x):\n    try:\n        f(x)\n    finally:\n        x.a += 1\n"),
    ("L6", "def f(x):\n    try:\n        f(x)\n    finally:\n        x.a = x.b - 1\n"),
    ("L6", "def f(x):\n    try:\n        f(x)\n    finally:\n        if x.a:\n            x.a = 1\n"),
    ("L6", "class Box:\n    def __exit__(self, kind, value, trace):\n        self.many -= 1\n"),
    ("L25", "class Box:\n    def f(self):\n        return g(self.f)\n\n\ndef g(x):\n    return x\n"),
    ("L25", "class Box:\n    def f(self):\n        return [self.f]\n"),
    ("L25", "class Box:\n    def f(self):\n        g = self.f\n        return g\n"),
    ("L25", "class Box:\n    @classmethod\n    def f(cls, x):\n        return sorted(x, key=cls)\n\n\ndef g(x):\n    return [Box.f, x]\n"),
    ("L25", "def f(x):\n    return f(x.append)\n"),
    ("L25", "def f(x):\n    return sorted(x, key=x.index)\n"),
    ("L6", "def f(x):\n    with x:\n        f(x)\n"),
    ("L6", "class Box:\n    def __exit__(self, kind, value, trace):\n        self.rows = value\n"),
    ("L6", "class Box:\n    def __exit__(self, kind, value, trace):\n        self.rows = len(self.a)\n"),
    ("L6", "class Box:\n    def __exit__(self, kind, value):\n        self.rows = 1\n"),
    ("L6", "class Box:\n    def __enter__(self, rows):\n        self.rows = rows\n"),
    ("L5", "class Box:\n    @property\n    def rows(self):\n        self.a = 1\n        return 1\n"),
    ("L5", "class Box:\n    @property\n    def title(self):\n        return 1\n"),
    ("L5", "class Box:\n    @property\n    def f(self):\n        return 1\n\n\nclass Bag:\n    def f(self):\n        pass\n"),
    ("L5", "class Box:\n    @property\n    def f(self):\n        return 1\n\n\ndef g(x):\n    x.f = 1\n"),
    ("L5", "class Box:\n    @property\n    def f(self):\n        return 1\n\n    @f.setter\n    def f(self, value):\n        self.f = value\n"),
    ("L5", "class Box:\n    @classmethod\n    def f(cls):\n        return 1\n\n\ndef g(x):\n    x.f = 1\n"),
    ("L5", "class Box:\n    @staticmethod\n    def f():\n        return 1\n\n\nclass Bag:\n    def f(self):\n        pass\n"),
    ("L5", "class Box:\n    def __or__(self, other):\n        return f(other)\n\n\ndef f(x):\n    x.a = 1\n"),
    ("L5", "class Box:\n    def __or__(self, other):\n        return f(other)\n\n\ndef f(x):\n    x.append(1)\n"),
    ("L5", "class Box:\n    def __or__(self, other):\n        return f(other)\n\n\ndef f(x):\n    return x(1)\n"),
    ("L5", "class Box:\n    def __or__(self, other):\n        n = 0\n        n += other\n        return n\n"),
    ("L5", "class Box:\n    def __eq__(self, other):\n        return other.f()\n\n    def f(self):\n        self.a = 1\n"),
    ("unused", "from bindspan.other import Thing\n"),
    ("unused", "def f():\n    a = 1\n"),
    ("unused", "def f(a):\n    pass\n"),
    ("unused", "def _f():\n    pass\n"),
]
OTHER = '"""Another file."""\n\n\nclass Thing:\n    """A thing."""\n\n    def __init__(self, at):\n        self.at = at\n'


def findings(text):
    return check_package({"__init__.py": "", "some.py": text, "other.py": OTHER})


class PackageTest(unittest.TestCase):
    def test_the_package_keeps_the_rules(self):
        paths = [path for path in PACKAGE.rglob("*") if "__pycache__" not in path.parts]
        files = {path.relative_to(PACKAGE).as_posix(): path.read_bytes().decode("utf-8") for path in paths}
        self.assertIn("errors.py", files)
        self.assertEqual(check_package(files), [])

    def test_files_compile_without_warnings(self):
        import warnings
        with warnings.catch_warnings():
            warnings.simplefilter("error")
            for path in PACKAGE.glob("*.py"):
                compile(path.read_text("utf-8"), str(path), "exec")


class ChecksTest(unittest.TestCase):
    def test_a_clean_file(self):
        self.assertEqual(findings(CLEAN), [])

    def test_what_breaks_a_rule_is_found(self):
        for rule, text in BROKEN:
            rules = [row.split(" ")[0] for row in findings(text)]
            self.assertIn(rule, rules, text)

    def test_a_finding_names_the_line(self):
        self.assertEqual(findings("A = 0\n\n\ndef f(a):\n    return a / 2\n"), ["L7 some.py:5 /"])

    def test_imports_in_a_circle(self):
        files = {
            "__init__.py": "",
            "one.py": "from bindspan.two import g\n\n\ndef f():\n    g()\n",
            "two.py": "from bindspan.one import f\n\n\ndef g():\n    f()\n",
        }
        self.assertIn("L16 bindspan.one imports itself through other files", check_package(files))

    def test_names_of_files(self):
        for name in ("Words.py", "words.txt", "test_words.py", "range.py", "enum.py", "tests.py", "law_a.py", "a-b.py"):
            self.assertNotEqual(check_package({"__init__.py": "", name: ""}), [], name)
        self.assertNotEqual(check_package({"words.py": ""}), [])


if __name__ == "__main__":
    unittest.main()
