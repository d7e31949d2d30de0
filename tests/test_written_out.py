"""Point 6: the things of a tree, written out."""

import copy
import unittest

from settledland.reading import read_tree
from settledland.rules import written_out


def out(text):
    return written_out(read_tree(text))


class WrittenOut(unittest.TestCase):
    def test_example(self):
        self.assertEqual(
            out(
                "kind net { zone: number fixed; } kind box { at: ref net empty; size: number; }"
                "thing n: net { zone = 3; } thing b * 2: box { at = n; size = index + 4; }"
            ),
            (
                ("n", "net", (("zone", ("number", 3)),)),
                ("b.0", "box", (("at", ("name", "n")), ("size", ("number", 4)))),
                ("b.1", "box", (("at", ("name", "n")), ("size", ("number", 5)))),
            ),
        )

    def test_nothing(self):
        self.assertEqual(out(""), ())
        self.assertEqual(out("kind k { } keep a; most 3; adopt 1 as a; move a to b;"), ())

    def test_only_things_in_their_order(self):
        self.assertEqual(
            out("most 3; thing b: k { } keep b; thing a * 2: j { } move x to b; thing a: k { }"),
            (("b", "k", ()), ("a.0", "j", ()), ("a.1", "j", ()), ("a", "k", ())),
        )

    def test_without_a_count_nothing_is_changed(self):
        self.assertEqual(
            out("thing a#: k { w = index + 3; x = b.#; y = told c# + 2; z# = none; }"),
            (
                (
                    "a#",
                    "k",
                    (
                        ("w", ("index", 3)),
                        ("x", ("name", "b.#")),
                        ("y", ("told", "c#", 2)),
                        ("z#", ("none",)),
                    ),
                ),
            ),
        )

    def test_counts(self):
        self.assertEqual(out("thing a * 0: k { x = index; }"), ())
        self.assertEqual(out("thing a * 1: k { x = index; }"), (("a.0", "k", (("x", ("number", 0)),)),))
        things = out("thing a * 12: k { x = index; }")
        self.assertEqual(things, tuple((f"a.{k}", "k", (("x", ("number", k)),)) for k in range(12)))

    def test_more_than_the_rules_allow(self):
        self.assertEqual(len(out("thing a * 41: k { } thing b * 60: k { }")), 101)

    def test_signs_in_names(self):
        self.assertEqual(
            out("thing a * 11: k { x = b.#; y = told c.# + 7; z = d#.e##; w = e.f; }")[10],
            (
                "a.10",
                "k",
                (
                    ("x", ("name", "b.10")),
                    ("y", ("told", "c.10", 7)),
                    ("z", ("name", "d10.e1010")),
                    ("w", ("name", "e.f")),
                ),
            ),
        )

    def test_signs_in_told_names(self):
        self.assertEqual(out("thing a * 1: k { y = told c##; }")[0][2], (("y", ("told", "c00", 0)),))

    def test_signs_in_the_values_alone_are_replaced(self):
        self.assertEqual(
            out("thing a#.b * 2: k# { x# = c#; }"),
            (
                ("a#.b.0", "k#", (("x#", ("name", "c0")),)),
                ("a#.b.1", "k#", (("x#", ("name", "c1")),)),
            ),
        )

    def test_values_of_copies_that_stay(self):
        values = (("x", ("number", 5)), ("y", ("none",)), ("x", ("told", "b", 4294967295)))
        tree = ((), (("thing", "a", 2, "k", values),))
        self.assertEqual(written_out(tree), (("a.0", "k", values), ("a.1", "k", values)))

    def test_index_goes_on_with_zero(self):
        things = out("thing a * 4: k { x = index + 4294967294; y = index + 4294967295; }")
        numbers = [tuple(value[1] for _, value in values) for _, _, values in things]
        self.assertEqual(numbers, [(4294967294, 4294967295), (4294967295, 0), (0, 1), (1, 2)])

    def test_told_additions_are_not_touched(self):
        things = out("thing a * 3: k { x = told b + 4294967295; }")
        self.assertEqual([values for _, _, values in things], [(("x", ("told", "b", 4294967295)),)] * 3)

    def test_trees_that_break_rules(self):
        self.assertEqual(
            out("kind k { } kind k { } thing a: none. { x = 1; x = 2; } thing a: k { y = a; } keep z; most 1; most 1;"),
            (
                ("a", "none.", (("x", ("number", 1)), ("x", ("number", 2)))),
                ("a", "k", (("y", ("name", "a")),)),
            ),
        )

    def test_tree_stays_as_it_was(self):
        tree = read_tree("kind k { x: number; } thing a * 3: k { x = index; y = b.#; } keep a.0;")
        before = copy.deepcopy(tree)
        self.assertEqual(written_out(tree), written_out(tree))
        self.assertEqual(tree, before)


if __name__ == "__main__":
    unittest.main()
