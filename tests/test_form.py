import tempfile
import unittest
from pathlib import Path

from tests.form import broken_in_folder, broken_rules

PACKAGE = Path(__file__).resolve().parent.parent / "leastmiss"

# What each rule sends back, written as the whole of one file.
OUT = {
    "L2": ["import math\n", "from math import gcd\n", "from . import errors\n", "from leastmiss.a import *\n",
           "def f():\n    from leastmiss.a import g\n"],
    "L3": ["print(1)\n", "X = len([])\n", "if True:\n    X = 1\n", "for x in [1]:\n    pass\n"],
    "L4": ["def f(*some):\n    return some\n", "def f(**some):\n    return some\n", "def f(*, a):\n    return a\n",
           "def g(a):\n    return a\n\n\n@g\ndef f():\n    return 1\n", "def f(a=len([])):\n    return a\n"],
    "L5": ["class A:\n    x = 1\n", "class A:\n    def __add__(self, other):\n        return 1\n"],
    "L6": ["def f(a):\n    with a:\n        pass\n", "def f(a):\n    assert a\n", "def f(a):\n    del a[0]\n",
           "def f(a):\n    b = c = a\n    return b + c\n", "def f(a):\n    b, c = a\n    return b + c\n",
           "def f(a):\n    for b in a:\n        pass\n    else:\n        pass\n", "def f(a):\n    yield a\n",
           "def f(a):\n    a\n", "def f():\n    try:\n        pass\n    finally:\n        pass\n"],
    "L7": ["def f(a):\n    return a / 2\n", "X = 1.5\n", "X = b'a'\n", "def f(a):\n    return {b for b in a}\n",
           "def f(a):\n    return sum(b for b in a)\n", "def f(a):\n    return [b for c in a for b in c]\n",
           "def f(a):\n    return f'{a:5}'\n", "def f(a):\n    return [*a]\n", "def f(a):\n    return (b := a)\n",
           "def f(a):\n    return {b: 1 for b in a}\n"],
    "L8": ["def f(a):\n    return pow(a, 2)\n", "def f(a):\n    return round(a)\n", "def f(a):\n    print(a)\n",
           "def f(a):\n    return a.format(1)\n"],
    "L10": ["def f(a):\n" + "    a = 1\n" * 40, "X = 1\n" + "# a\n" * 400, "X = " + "1" * 117 + "\n",
            "def f(a):\n\treturn a\n"],
    "L12": ["def f(a):\n    for _ in a:\n        pass\n", "_X = 1\n", "def f(_a):\n    return 1\n"],
    "L13": ["def f(a):\n    b = {1, 2, 3}\n    return b\n", "def f(g):\n    return g(lambda a: 1, lambda a: 2)\n"],
    "L14": ["# \u00e4\n", "X = '\u2192'\n"],
    "L15": ["X = 1\nX = 2\n", "X = [[1], [2]]\n", "X = []\n\n\ndef f(a):\n    X.append(a)\n",
            "X = [1]\n\n\ndef f():\n    return X\n", "def f(sum):\n    return sum\n", "def f(a):\n    id = a\n    return id\n",
            "def f():\n    class A:\n        pass\n    return 1\n"],
    "L16": ["from leastmiss.a import g\n"],
    "L17": ["def f(a):\n    return super(a)\n", "# the type of it\n", "def f(a):\n    return a.f_back\n",
            "def f(a):\n    return getattr(a, 'b')\n"],
    "L18": ["class A:\n    pass\n\n\ndef f():\n    return [A]\n", "class A(StopIteration):\n    pass\n",
            "class A:\n    def f(self):\n        return 1\n\n    def f(self):\n        return 2\n",
            "class A:\n    def f(self):\n        self.f = 1\n", "class A:\n    pass\n\n\ndef f():\n    A.x = 1\n"],
    "L19": ["def f(a):\n    try:\n        return a[0]\n    except Exception:\n        return 1\n",
            "def f(a):\n    try:\n        return a[0]\n    except:\n        return 1\n",
            "def f(a):\n    try:\n        return f(a)\n    except ValueError:\n        return 1\n",
            "def f(a):\n    try:\n        return a[len(a)]\n    except IndexError:\n        return 1\n",
            "def f():\n    raise ValueError\n"],
    "L20": ["def f(a, b):\n    return a is b\n"],
    "L21": ["def f():\n    x: int\n    return 1\n", "def f():\n    def g(a: int):\n        return a\n    return g(1)\n"],
    "L22": ["def f(a, b):\n    return isinstance(a, b.c)\n", "def f():\n    return [len]\n",
            "def f(a):\n    return int(a, base=2)\n", "def f(a, b):\n    return sorted(a, reverse=b)\n"],
    "L23": ["def f(a):\n    b = zip(a, a)\n    return list(b)\n", "def f(a):\n    for b in a:\n        a.append(b)\n",
            "def f(a):\n    for b, c in enumerate(a):\n        a[b] = c\n", "def f(a):\n    return a.items()\n"],
    "L24": ["def f(a):\n    b = set(a)\n    return 1 in b\n", "def f(a):\n    return [b for b in set(a)]\n"],
    "L25": ["def f(a):\n    a.sort()\n", "def f(a):\n    return a.title()\n", "def f(a):\n    b = a.append\n    b(1)\n"],
    "L26": ["class A:\n    def __init__(self):\n        self.items = 1\n", "class A:\n    def sort(self):\n        return 1\n"],
    "L27": ["def f(n):\n    return 2 ** n\n", "X = '5 %'\n", "X = '\\x41'\n", "def f(a):\n    return chr(a)\n",
            "X = 10 ** 65\n"],
    "L28": ["class A:\n    def __init__(self):\n        return None\n", "class A:\n    def __len__(self):\n        return self.a\n",
            "class A:\n    def __str__(self):\n        self.a = 1\n        return ''\n"],
}

# What the rules let by, so that a check that sends everything back is seen too.
LET_BY = '''"""A file as it may be."""

from leastmiss.errors import NoRow, NoText

MOST = 60
KINDS = ["far", "sum"]
SIGNS = {"plus": 1, "minus": -1}


class Desk:
    def __init__(self):
        self.kept = {}

    def told(self, word):
        if word not in KINDS:
            raise NoRow("no such word")
        self.kept[word] = SIGNS.get(word, 0)
        return len(set(self.kept) | set(KINDS))


def read_whole(text):
    if not isinstance(text, str) or text is None:
        raise NoText(f"no text: {text!r}")
    try:
        return int(text)
    except ValueError:
        return 0


def spread(some, step=1):
    found = []
    for spot, one in enumerate(some, start=1):
        if spot % step == 0 and one in {1, 2, 3}:
            found.append(one ** 2)
    found = sorted(found, key=lambda one: -one)
    return [(one, other) for one, other in zip(found, range(MOST)) if one != other]
'''


def rules_of(text):
    return {rule for rule, name, line in broken_rules("leastmiss", {"a.py": text, "errors.py": ERRORS})}


ERRORS = "class NoRow(ValueError):\n    pass\n\n\nclass NoText(ValueError):\n    pass\n"


class PackageTest(unittest.TestCase):
    def test_the_package_keeps_to_the_rules(self):
        self.assertTrue((PACKAGE / "errors.py").is_file())
        self.assertEqual(broken_in_folder(PACKAGE), [])


class RulesTest(unittest.TestCase):
    def test_what_is_out_is_seen(self):
        for rule, texts in OUT.items():
            for text in texts:
                with self.subTest(rule=rule, text=text[:200]):
                    self.assertIn(rule, rules_of(text))

    def test_what_is_in_is_let_by(self):
        self.assertEqual(rules_of(LET_BY), set())

    def test_files_that_draw_from_one_another(self):
        texts = {
            "a.py": "from leastmiss.b import g\n\n\ndef f():\n    return g()\n",
            "b.py": "from leastmiss.a import f\n\n\ndef g():\n    return f()\n",
        }
        self.assertEqual({rule for rule, name, line in broken_rules("leastmiss", texts)}, {"L16"})

    def test_only_files_with_plain_names(self):
        for name, rule in [("notes.txt", "L1"), ("Marks.py", "L1"), ("tests.py", "L14"), ("sum.py", "L14")]:
            with self.subTest(name=name), tempfile.TemporaryDirectory() as folder:
                (Path(folder) / "__init__.py").write_text("")
                self.assertEqual(broken_in_folder(folder), [])
                (Path(folder) / name).write_text("")
                self.assertEqual(broken_in_folder(folder), [(rule, name, 0)])


if __name__ == "__main__":
    unittest.main()
