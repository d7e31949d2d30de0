"""Plain names, rule L12 of the language: no name of the package begins with, or is, what the
rule bars."""

import ast
import re
import unittest

from pathlib import Path

import settledland

FOLDER = Path(settledland.__file__).parent
FILES = sorted(FOLDER.glob("**/*.py"))

BEGINNINGS = ("_pe_", "_dcw_", "_enum_", "_cm_", "_twin_re_", "_lay_", "_law_", "_stub_", "_sre", "_WallAttr")
# Attributes and methods may begin so, other names may not.
BEGINNING_OF_ATTRIBUTES = "_wall"
WORDS = ("_cold", "_tuplegetter", "_outside", "_record", "_written_out", "_member_names")
WORDS_OF_FILES = ("_wall", "_WallAttr")

BARRED_WORD = re.compile("(" + "|".join(WORDS) + ")[0-9_]*")
PLAIN = re.compile("_?[A-Za-z][A-Za-z0-9_]*|_")
PLAIN_OF_CLASSES = re.compile("[A-Za-z][A-Za-z0-9_]*")
OF_PYTHON = re.compile("__[a-z]+__")
WORD = re.compile("[A-Za-z0-9_]+")

NAME, ATTRIBUTE, CLASS = "name", "attribute", "class"


def names_of_node(node, methods):
    """Returns the pairs (name, sort) that stand in this node itself. `methods` holds the
    functions that stand directly in a class."""
    if isinstance(node, (ast.FunctionDef, ast.AsyncFunctionDef)):
        return [(node.name, ATTRIBUTE if node in methods else NAME)]
    if isinstance(node, ast.ClassDef):
        return [(node.name, CLASS)]
    if isinstance(node, ast.Attribute):
        return [(node.attr, ATTRIBUTE)]
    if isinstance(node, ast.Name):
        return [(node.id, NAME)]
    if isinstance(node, (ast.arg, ast.keyword)):
        return [(node.arg, NAME)]
    if isinstance(node, ast.alias):
        return [(node.asname, NAME)] + [(part, NAME) for part in node.name.split(".")]
    if isinstance(node, ast.ImportFrom):
        return [(part, NAME) for part in (node.module or "").split(".")]
    if isinstance(node, (ast.ExceptHandler, ast.MatchAs, ast.MatchStar)):
        return [(node.name, NAME)]
    if isinstance(node, ast.MatchMapping):
        return [(node.rest, NAME)]
    if isinstance(node, ast.MatchClass):
        return [(name, ATTRIBUTE) for name in node.kwd_attrs]
    if isinstance(node, (ast.Global, ast.Nonlocal)):
        return [(name, NAME) for name in node.names]
    return []


def slots_of_node(node):
    """Returns the names that `__slots__ = (..)` gives to attributes."""
    if isinstance(node, ast.Assign) and [getattr(at, "id", "") for at in node.targets] == ["__slots__"]:
        return [(part.value, ATTRIBUTE) for part in ast.walk(node.value) if isinstance(part, ast.Constant)]
    return []


def names_in(source):
    """Returns the pairs (name, sort) of all names of a file."""
    nodes = list(ast.walk(ast.parse(source)))
    methods = [part for node in nodes if isinstance(node, ast.ClassDef) for part in node.body]
    pairs = [pair for node in nodes for pair in names_of_node(node, methods) + slots_of_node(node)]
    # Parts that a name may stand in, but need not, have None there or "".
    return [pair for pair in pairs if pair[0] not in (None, "", "*")]


def is_barred(name, sort):
    """Returns whether L12 bars a name; the sort is NAME, ATTRIBUTE or CLASS."""
    if OF_PYTHON.fullmatch(name):
        return False
    plain = PLAIN_OF_CLASSES if sort == CLASS else PLAIN
    begins = name.startswith(BEGINNINGS) or (sort != ATTRIBUTE and name.startswith(BEGINNING_OF_ATTRIBUTES))
    is_word = BARRED_WORD.fullmatch(name) is not None
    return begins or is_word or plain.fullmatch(name) is None


def barred_in(source):
    """Returns the barred names of a file, and the words that stand nowhere in a file."""
    names = [name for name, sort in names_in(source) if is_barred(name, sort)]
    return sorted(set(names) | {word for word in WORD.findall(source) if word in WORDS_OF_FILES})


class NamesOfThePackage(unittest.TestCase):
    def test_no_name_is_barred(self):
        self.assertNotEqual(FILES, [])
        for path in FILES:
            self.assertEqual(barred_in(path.read_text(encoding="utf-8")), [], path)

    def test_no_file_has_a_barred_name(self):
        names = [part for path in FILES for part in path.relative_to(FOLDER).with_suffix("").parts]
        self.assertEqual([name for name in names if is_barred(name, NAME)], [])

    def test_all_sorts_of_names_of_the_package_are_seen(self):
        pairs = [pair for path in FILES for pair in names_in(path.read_text(encoding="utf-8"))]
        for pair in (("Driven", CLASS), ("under_way", ATTRIBUTE), ("_bearers", ATTRIBUTE), ("read_land", NAME)):
            self.assertTrue(pair in pairs, pair)


# For each place where a name may stand: a file with NAME there.
PLACES_OF_NAMES = {
    "variable": "def f():\n    NAME = 1\n",
    "variable that is read": "def f():\n    return NAME\n",
    "variable of a module": "NAME = 1\n",
    "variable with an annotation": "NAME: int = 1\n",
    "variable of a loop": "def f(xs):\n    for k, (a, NAME) in xs:\n        pass\n",
    "variable of a comprehension": "def f(xs):\n    return [1 for NAME in xs]\n",
    "variable with a star": "def f(xs):\n    a, *NAME = xs\n",
    "variable in a test": "def f(xs):\n    if (NAME := len(xs)):\n        pass\n",
    "variable of with": "def f(a):\n    with a as NAME:\n        pass\n",
    "nonlocal": "def f():\n    def g():\n        nonlocal NAME\n",
    "global": "def f():\n    global NAME\n",
    "parameter": "def f(a, NAME):\n    pass\n",
    "parameter with a default": "def f(a, NAME=1):\n    pass\n",
    "parameter by position": "def f(NAME, /):\n    pass\n",
    "parameter by keyword": "def f(*, NAME):\n    pass\n",
    "rest": "def f(*NAME):\n    pass\n",
    "more": "def f(**NAME):\n    pass\n",
    "parameter of a method": "class A:\n    def f(self, NAME):\n        pass\n",
    "parameter of a lambda": "def f():\n    return lambda NAME: 1\n",
    "keyword": "def f():\n    return f(NAME=1)\n",
    "function": "def NAME():\n    pass\n",
    "nested function": "class A:\n    def f(self):\n        def NAME():\n            pass\n",
    "import": "from a.b import NAME\n",
    "import as": "from a.b import c as NAME\n",
    "module": "from a.NAME import c\n",
    "package": "from NAME.a import c\n",
    "whole module": "import a.NAME\n",
    "caught error": "def f():\n    try:\n        pass\n    except KeyError as NAME:\n        pass\n",
    "captured": "def f(a):\n    match a:\n        case NAME:\n            pass\n",
    "captured as": "def f(a):\n    match a:\n        case [1] as NAME:\n            pass\n",
    "captured star": "def f(a):\n    match a:\n        case [1, *NAME]:\n            pass\n",
    "captured rest": "def f(a):\n    match a:\n        case {1: 2, **NAME}:\n            pass\n",
    "in an f-string": 'def f():\n    return f"{NAME}"\n',
}
PLACES_OF_ATTRIBUTES = {
    "method": "class A:\n    def NAME(self):\n        pass\n",
    "method of a class in a function": "def f():\n    class A:\n        def NAME(self):\n            pass\n",
    "method that is called": "def f(a):\n    return a.NAME()\n",
    "attribute": "class A:\n    def __init__(self):\n        self.NAME = 1\n",
    "attribute that is read": "def f(a):\n    return a.b.NAME.c\n",
    "attribute in an f-string": 'def f(a):\n    return f"{a.NAME}"\n',
    "slot": 'class A:\n    __slots__ = ("x", "NAME")\n',
    "attribute of a pattern": "def f(a):\n    match a:\n        case A(NAME=1):\n            pass\n",
}
PLACES_OF_CLASSES = {"class": "class NAME:\n    pass\n", "class with a base": "class NAME(ValueError):\n    pass\n"}

BARRED = (
    *("_pe_x", "_dcw_x", "_enum_x", "_cm_x", "_twin_re_x", "_lay_out", "_law_x", "_stub_x", "_srex", "_WallAttrs"),
    *("_pe_", "_dcw_", "_enum_", "_cm_", "_twin_re_", "_lay_", "_law_", "_stub_", "_sre", "_WallAttr", "_wall"),
    *("_cold", "_tuplegetter", "_outside", "_record", "_written_out", "_member_names"),
    *("_cold1", "_tuplegetter_", "_outside_2", "_record22", "_written_out__", "_member_names_0_"),
    *("__x", "__x_y", "_1", "w\u00e4rme"),
)
FREE = (
    *("lay_out", "_layout", "_lays", "_lay", "law_x", "_law", "_pe", "_enum", "_cm", "_stub", "_sr", "_twin_re"),
    *("_wal", "_colder", "_records", "_record_of", "outside", "record", "written_out", "_written", "_cold_x1"),
    *("x_lay_out", "a_wall", "_Wall", "_LAY_OUT", "_x", "_X1", "x__y"),
)


class NamesThatAreFound(unittest.TestCase):
    def check(self, places, name, found):
        for place, source in places.items():
            with self.subTest(place=place, name=name):
                self.assertEqual(barred_in(source.replace("NAME", name)), found)

    def test_barred_names_are_found_in_each_place(self):
        for places in (PLACES_OF_NAMES, PLACES_OF_ATTRIBUTES, PLACES_OF_CLASSES):
            for name in BARRED:
                self.check(places, name, [name])

    def test_free_names_are_free_in_each_place(self):
        for name in FREE:
            self.check(PLACES_OF_NAMES, name, [])
            self.check(PLACES_OF_ATTRIBUTES, name, [])

    def test_attributes_and_methods_alone_may_begin_with_wall(self):
        for name in ("_walls", "_wall_", "_wall2", "_wallpaper"):
            self.check(PLACES_OF_NAMES, name, [name])
            self.check(PLACES_OF_CLASSES, name, [name])
            self.check(PLACES_OF_ATTRIBUTES, name, [])

    def test_names_of_classes_begin_with_a_letter(self):
        self.check(PLACES_OF_CLASSES, "_Box", ["_Box"])
        self.check(PLACES_OF_CLASSES, "Box_1", [])

    def test_names_of_python_are_free(self):
        self.check(PLACES_OF_ATTRIBUTES, "__init__", [])
        self.check(PLACES_OF_NAMES, "__name__", [])

    def test_words_that_stand_nowhere_in_a_file(self):
        for word in WORDS_OF_FILES:
            for source in ("# a WORD here\n", '"""A WORD."""\n', 'X = "WORD"\n', "X = ('a WORD',)\n"):
                self.assertEqual(barred_in(source.replace("WORD", word)), [word])
            self.assertEqual(barred_in("# " + word + "s, a" + word + ", " + word + "_2\n"), [])

    def test_other_words_may_stand_in_comments_and_strings(self):
        for word in BEGINNINGS[:-1] + WORDS:
            self.assertEqual(barred_in("# " + word + "\nX = '" + word + "'\n"), [])


if __name__ == "__main__":
    unittest.main()
