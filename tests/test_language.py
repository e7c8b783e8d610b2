"""The package against LANGUAGE.md, and the check itself against small wrong files."""

import os
import unittest

from language_check import check_folder, check_texts

FOLDER = os.path.join(os.path.dirname(os.path.dirname(os.path.abspath(__file__))), "whyblank")

WRONG = [
    ("L2", "import os\n"),
    ("L2", "from os import path\n"),
    ("L2", "from math import floor\n"),
    ("L2", "from math import gcd as common\n"),
    ("L2", "from pack.other import *\n"),
    ("L2", "from . import other\n"),
    ("L2", "def f():\n    from pack.other import told\n    return told()\n"),
    ("L2", "X = 1\nfrom math import gcd\n"),
    ("L2", "from math import gcd\n\n\ndef f(a):\n    return sorted(a, key=gcd)\n"),
    ("L2", "from math import gcd\n\n\ndef f():\n    gcd = 1\n    return gcd\n"),
    ("L3", "print(1)\n"),
    ("L3", "A, B = 1, 2\n"),
    ("L3", "A = sorted((1, 2))\n"),
    ("L3", "for k in (1, 2):\n    pass\n"),
    ("L4", "class C:\n    @property\n    def many(self):\n        return 1\n"),
    ("L4", "def f(a=[]):\n    return a\n"),
    ("L4", "def f(a=len(\"a\")):\n    return a\n"),
    ("L5", "class C:\n    def __hash__(self):\n        return 1\n"),
    ("L5", "class C(int):\n    pass\n"),
    ("L6", "def f():\n    global a\n    a = 1\n"),
    ("L6", "def f(a):\n    with a:\n        pass\n"),
    ("L6", "def f(a):\n    for k in a:\n        yield k\n"),
    ("L7", "X = 1.5\n"),
    ("L7", "def f(a):\n    return a / 2\n"),
    ("L7", "def f(a):\n    return any(x for x in a)\n"),
    ("L7", "X = b\"a\"\n"),
    ("L7", "X = [a for a in (1, 2)]\n"),
    ("L8", "def f(a):\n    return round(a)\n"),
    ("L8", "def f(a):\n    return hash(a)\n"),
    ("L8", "def f(a):\n    print(a)\n"),
    ("L8", "def f(a):\n    return unknown + a\n"),
    ("L10", "def f(a):\n" + "    a = a + 1\n" * 40 + "    return a\n"),
    ("L10", "X = 1\n" * 1 + "# a\n" * 399),
    ("L10", "X = \"" + "a" * 120 + "\"\n"),
    ("L10", "def f(a):\n\treturn a\n"),
    ("L12", "def _wall_of(a):\n    return a\n"),
    ("L12", "def f():\n    _cold1 = 1\n    return _cold1\n"),
    ("L12", "def f(a):\n    __b = a\n    return __b\n"),
    ("L12", "def f(a):\n    for _ in a:\n        return _\n"),
    ("L13", "def f(a):\n    return a == {1, 2, 3}\n"),
    ("L13", "def f(a):\n    return a(lambda x: 1, lambda x: 2)\n"),
    ("L14", "X = \"\u00e4\"\n"),
    ("L14", "# \u00e4\n"),
    ("L15", "X = 1\nX = 2\n"),
    ("L15", "def f(a):\n    list = a\n    return list\n"),
    ("L15", "def hash(a):\n    return a\n"),
    ("L15", "class Box:\n    pass\n\n\ndef f(Box):\n    return Box\n"),
    ("L15", "from pack.other import told\n\n\ndef f(told):\n    return told\n"),
    ("L15", "X = [[1], [2]]\n"),
    ("L15", "X = {}\n\n\ndef f(a):\n    X[a] = 1\n"),
    ("L15", "X = []\n\n\ndef f(a):\n    X.append(a)\n"),
    ("L16", "from pack.other import missing\n"),
    ("L16", "from pack.absent import told\n"),
    ("L17", "def f(open):\n    return open\n"),
    ("L17", "def f(a):\n    return a.mro\n"),
    ("L17", "def f(vars):\n    return vars\n"),
    ("L17", "X = \"type\"\n"),
    ("L17", "X = \"a dataclasses b\"\n"),
    ("L18", "class Box:\n    pass\n\n\ndef f():\n    return [Box]\n"),
    ("L18", "def f(a):\n    return a.never\n"),
    ("L18", "class C:\n    def many(self):\n        return 1\n\n    def other(self):\n        self.many = 2\n"),
    ("L19", "def f(a):\n    try:\n        return a[0]\n    except IndexError:\n        return None\n"),
    ("L19", "def f(a):\n    raise a\n"),
    ("L20", "def f(a, b):\n    return a is b\n"),
    ("L21", "def f(a: int):\n    return a\n"),
    ("L22", "def f(a):\n    return sorted(a, None)\n"),
    ("L22", "def f(a):\n    return int(a, base=2)\n"),
    ("L22", "def f(a):\n    return [len, a]\n"),
    ("L22", "def f(a):\n    return a\n\n\ndef g(a):\n    return f(a, a)\n"),
    ("L22", "from pack.other import told\n\n\ndef g(a):\n    return told(b=a)\n"),
    ("L22", "class C:\n    def __init__(self, a):\n        self.a = a\n\n\ndef g():\n    return C()\n"),
    ("L23", "def f(a):\n    return zip(a, a)\n"),
    ("L23", "def f(a):\n    return len(a.items())\n"),
    ("L23", "def f(a):\n    for k in a:\n        a.append(k)\n"),
    ("L23", "def f(a):\n    for k, x in enumerate(a):\n        a[k] = x\n"),
    ("L24", "def f(a):\n    return set(a)\n"),
    ("L24", "def f(a):\n    for k in {x for x in a}:\n        return k\n"),
    ("L25", "def f(a):\n    a.popitem()\n"),
    ("L25", "def f(a):\n    a.sort()\n"),
    ("L25", "def f(a):\n    return a.split(sep=\",\")\n"),
    ("L25", "def f(a):\n    return sorted(a, key=a.index)\n"),
    ("L26", "class C:\n    def __init__(self):\n        self.items = 1\n"),
    ("L26", "class C:\n    def encode(self):\n        return 1\n"),
    ("L27", "def f(a):\n    return 2 ** a\n"),
    ("L27", "X = 2 ** 65\n"),
    ("L27", "X = \"a%b\"\n"),
    ("L27", "X = \"a\\x41\"\n"),
    ("L27", "X = \"a._\"\n"),
    ("L27", "X = \"__odd__\"\n"),
    ("L27", "X = " + "1" * 901 + "\n"),
    ("L27", "def f(a):\n    return 1if a else 2\n"),
    ("L28", "class C:\n    def __init__(self):\n        return None\n"),
    ("L28", "class C:\n    def __eq__(self, other):\n        self.a = 1\n        return False\n"),
]

RIGHT = '''"""A file."""

from math import gcd

from pack.other import told

MANY = 10 ** 64
WORDS = ("a", "b")


class Box:
    """A box."""

    def __init__(self, rows):
        self.rows = rows

    def __eq__(self, other):
        return isinstance(other, Box) and self.rows == other.rows


def first(box, many=3):
    """The first ones."""
    for at, (row, _) in enumerate(box.rows):
        if at > many:
            return gcd(row, many)
    seen = {told(row): True for row in sorted({1, many})}
    return tuple(reversed([one for one in seen]))
'''


class Rules(unittest.TestCase):
    def test_package_keeps_the_rules(self):
        self.assertEqual(check_folder(FOLDER), [])

    def test_wrong_files_are_found(self):
        other = ("other.py", "def told(a):\n    return a\n")
        for rule, text in WRONG:
            with self.subTest(rule=rule, text=text):
                found = check_texts("pack", [("one.py", text), other])
                self.assertIn(rule, [one[0] for one in found], found)

    def test_right_file_is_not_found(self):
        other = ("other.py", "def told(a):\n    return a\n")
        self.assertEqual(check_texts("pack", [("one.py", RIGHT), other]), [])

    def test_imports_in_a_circle(self):
        one = ("one.py", "from pack.two import b\n\n\ndef a():\n    return b()\n")
        two = ("two.py", "from pack.three import c\n\n\ndef b():\n    return c()\n")
        three = ("three.py", "from pack.one import a\n\n\ndef c():\n    return a()\n")
        found = check_texts("pack", [one, two, three])
        self.assertIn("L16", [wrong[0] for wrong in found])

    def test_name_of_a_file(self):
        for name in ("One.py", "test_one.py", "len.py", "a-b.py", "site.py"):
            with self.subTest(name=name):
                self.assertNotEqual(check_texts("pack", [(name, "X = 1\n")]), [])

    def test_other_things_in_the_folder(self):
        import tempfile
        with tempfile.TemporaryDirectory() as folder:
            with open(os.path.join(folder, "notes.txt"), "w") as held:
                held.write("a")
            self.assertIn("L1", [wrong[0] for wrong in check_folder(folder)])


if __name__ == "__main__":
    unittest.main()
