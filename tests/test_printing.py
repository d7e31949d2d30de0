"""Points 4 and 5: a printed text is read as the tree that was printed."""

import copy
import unittest

from itertools import combinations, product

from settledland.errors import SyntaxProblem
from settledland.printing import print_tree
from settledland.reading import read_tree

from tests.test_form import TEXT
from tests.test_rules import BROKEN, RULES, text_of

MARKS = ("empty", "fixed", "single")
NUMBERS = (0, 1, 7, 10, 4294967295)
NAMES = ("a", "Z", "kinds", "kind.1", "to_", "none#", "a.#.b#", "x__9", "a" * 60, "e.0.0")
VALUES = (
    [("none",)]
    + [("number", n) for n in NUMBERS]
    + [("index", n) for n in NUMBERS]
    + [("name", name) for name in NAMES]
    + [("told", name, n) for name in NAMES for n in NUMBERS]
)
# At least one item of each sort, in all their forms.
ITEMS = (
    ("thing", "a", None, "k", ()),
    ("thing", "a#", 0, "k.k", (("x", ("number", 4)),)),
    ("thing", "a", 4294967295, "k", (("x", ("index", 0)), ("x", ("index", 3)))),
    ("keep", "a.0"),
    ("most", 0),
    ("most", 4294967295),
    ("adopt", 0, "as_"),
    ("adopt", 12, "a"),
    ("move", "old#", "new"),
)


class PrintTree(unittest.TestCase):
    def is_read(self, tree):
        """Checks a tree, and returns the text that is printed for it."""
        before = copy.deepcopy(tree)
        text = print_tree(tree)
        self.assertEqual(read_tree(text), tree, text)
        self.assertEqual(tree, before)
        self.assertIsInstance(text, str)
        self.assertEqual([sign for sign in text if not (" " <= sign <= "~" or sign == "\n") or sign == "%"], [])
        return text

    def test_whole_text(self):
        self.is_read(read_tree(TEXT))

    def test_nothing(self):
        self.is_read(((), ()))

    def test_kinds_without_fields(self):
        self.is_read(((("a", ()),), ()))
        self.is_read(((("a", ()), ("b.#", ()), ("a", ())), ()))

    def test_fields_of_all_sorts_and_marks(self):
        every = []
        for target, many in product(("", "k", "j_.#"), range(4)):
            for marks in combinations(MARKS, many):
                every.append((f"x{len(every)}", target, marks))
                self.is_read(((("k", (every[-1],)),), ()))
        self.is_read(((("k", tuple(every)), ("j", tuple(reversed(every)))), ()))

    def test_fields_of_the_same_name(self):
        self.is_read(((("k", (("x", "", ()), ("x", "k", ("fixed",)), ("x", "", ()))),), ()))

    def test_names(self):
        for name in NAMES:
            self.is_read(((), (("thing", name, None, name, ((name, ("name", name)),)),)))
            self.is_read(((), (("thing", name, 3, name, ((name, ("told", name, 1)),)),)))
            self.is_read(((), (("keep", name), ("adopt", 1, name), ("move", name, name))))
            self.is_read((((name, ((name, name, ()), (name, name, MARKS))),), ()))

    def test_counts(self):
        for count in (None,) + NUMBERS:
            self.is_read(((), (("thing", "a", count, "k", ()),)))
            self.is_read(((), (("thing", "a", count, "k", (("x", ("number", 1)),)),)))

    def test_values(self):
        for value in VALUES:
            for count in (None, 2):
                self.is_read(((), (("thing", "a", count, "k", (("x", value),)),)))

    def test_values_behind_each_other(self):
        for value, other in product(VALUES[::3], repeat=2):
            self.is_read(((), (("thing", "a", None, "k", (("x", value), ("y", other))),)))

    def test_items_of_each_sort_behind_each_other_one(self):
        for item in ITEMS:
            self.is_read(((), (item,)))
            self.is_read(((("k", ()),), (item,)))
        for items in product(ITEMS, repeat=2):
            self.is_read(((), items))
        self.is_read(((), ITEMS + ITEMS[::-1]))

    def test_numbers_of_items(self):
        for n in NUMBERS:
            self.is_read(((), (("most", n), ("adopt", n, "b"), ("most", n))))

    def test_trees_that_break_rules(self):
        for rule in RULES:
            self.is_read(read_tree(text_of(rule)))
        self.is_read(read_tree(text_of(*BROKEN)))

    def test_many_things(self):
        self.is_read(((), tuple(("thing", f"a.{n}", None, "k", (("x", ("number", n)),)) for n in range(41))))

    def test_further_item_behind_a_printed_text(self):
        for first, item in product(ITEMS, repeat=2):
            text = print_tree(((("k", ()),), (first,)))
            more = print_tree(((), (item,)))
            self.assertEqual(read_tree(text + "\n" + more), ((("k", ()),), (first, item)))

    def test_further_token_behind_a_printed_text(self):
        for items in ((),) + tuple((item,) for item in ITEMS):
            text = print_tree(((("k", ()),), items))
            for token in ("}", ";", "+", "a", "3", "none", "fixed", ",", "#"):
                with self.assertRaises(SyntaxProblem) as caught:
                    read_tree(text + "\n" + token)
                self.assertEqual(caught.exception.start, len(text) + 1, text)

    def test_printed_text_is_no_longer_than_the_one_that_was_read(self):
        # So the printed text of a tree of a text is a text, too: of at most 8000 characters.
        for text in (
            "most 1;" * 1142,
            "adopt 1as a;" * 666,
            "move a to b;" * 666,
            "kind k{x:ref k fixed empty;y:number single;}" * 181,
            "thing a*2:k{x=index+4;y=told b;z=none;w=b#;}" * 181,
            "kind k{}thing a:k{x=told b+1;}keep a;",
        ):
            self.assertEqual(len(self.is_read(read_tree(text))), len(text), text[:50])
        self.assertLess(len(print_tree(read_tree(TEXT))), len(TEXT))


if __name__ == "__main__":
    unittest.main()
