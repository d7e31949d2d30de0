"""Point 5: the tree of a text."""

import unittest

from itertools import product

from settledland.reading import read_tree


def fields_of(text):
    ((_, fields),), _ = read_tree("kind k { " + text + " }")
    return fields


def value_of(text):
    _, ((_, _, _, _, ((_, value),)),) = read_tree("thing a: k { x = " + text + "; }")
    return value


class Trees(unittest.TestCase):
    def test_kinds_and_items(self):
        text = """
            kind net { zone: number fixed; }   ! the first kind
            kind box { at: ref net empty; size: number; }
            thing n: net { zone = 3; }
            thing b * 2: box { at = n; size = index + 4; }
            most 5; keep b.0; adopt 9 as n; move old to b.1;
        """
        self.assertEqual(
            read_tree(text),
            (
                (
                    ("net", (("zone", "", ("fixed",)),)),
                    ("box", (("at", "net", ("empty",)), ("size", "", ()))),
                ),
                (
                    ("thing", "n", None, "net", (("zone", ("number", 3)),)),
                    ("thing", "b", 2, "box", (("at", ("name", "n")), ("size", ("index", 4)))),
                    ("most", 5),
                    ("keep", "b.0"),
                    ("adopt", 9, "n"),
                    ("move", "old", "b.1"),
                ),
            ),
        )

    def test_nothing_in_the_braces(self):
        self.assertEqual(read_tree("kind k {} thing a:k{}"), ((("k", ()),), (("thing", "a", None, "k", ()),)))

    def test_order_and_doubles_are_kept(self):
        self.assertEqual(
            read_tree("kind b { y: number; x: number; y: ref b; } kind a { } kind b { }")[0],
            (("b", (("y", "", ()), ("x", "", ()), ("y", "b", ()))), ("a", ()), ("b", ())),
        )
        self.assertEqual(
            read_tree("thing b: k { y = 1; x = 2; y = 3; } thing a: k { }")[1],
            (
                ("thing", "b", None, "k", (("y", ("number", 1)), ("x", ("number", 2)), ("y", ("number", 3)))),
                ("thing", "a", None, "k", ()),
            ),
        )

    def test_marks_in_any_order_and_twice(self):
        for many in range(5):
            for marks in product(("fixed", "empty", "single"), repeat=many):
                expected = tuple(sorted(set(marks)))
                self.assertEqual(fields_of("x: number " + " ".join(marks) + ";"), (("x", "", expected),))
                self.assertEqual(fields_of("x: ref k " + " ".join(marks) + ";"), (("x", "k", expected),))

    def test_marks_are_ascending(self):
        self.assertEqual(fields_of("x: number single fixed empty;"), (("x", "", ("empty", "fixed", "single")),))

    def test_counts(self):
        for written, count in (("", None), ("* 0", 0), ("*1", 1), ("* 040", 40), ("* 4294967297", 1)):
            tree = read_tree("thing a " + written + ": k { }")
            self.assertEqual(tree, ((), (("thing", "a", count, "k", ()),)))

    def test_values(self):
        for text, value in (
            ("7", ("number", 7)),
            ("none", ("none",)),
            ("index", ("index", 0)),
            ("index + 0", ("index", 0)),
            ("index+12", ("index", 12)),
            ("b", ("name", "b")),
            ("b.#", ("name", "b.#")),
            ("told b", ("told", "b", 0)),
            ("told b + 0", ("told", "b", 0)),
            ("told b.#+5", ("told", "b.#", 5)),
        ):
            self.assertEqual(value_of(text), value)

    def test_numbers_are_taken_modulo(self):
        numbers = {
            "0": 0,
            "000": 0,
            "0017": 17,
            "4294967295": 4294967295,
            "4294967296": 0,
            "4294967297": 1,
            "00004294967300": 4,
            "18446744073709551617": 1,
            "12345678901234567890": 12345678901234567890 % 4294967296,
            "1" + "0" * 6000: 0,
            "0" * 6000 + "21": 21,
            "9" * 6000: (pow(10, 6000, 4294967296) - 1) % 4294967296,
        }
        for digits, number in numbers.items():
            self.assertEqual(value_of(digits), ("number", number))
            self.assertEqual(value_of("index + " + digits), ("index", number))
            self.assertEqual(value_of("told b + " + digits), ("told", "b", number))
            self.assertEqual(
                read_tree("thing a * " + digits + ": k { } most " + digits + "; adopt " + digits + " as b;")[1],
                (("thing", "a", number, "k", ()), ("most", number), ("adopt", number, "b")),
            )

    def test_same_tree_at_each_call(self):
        text = "kind k { x: number; } thing a: k { x = 1; }"
        self.assertEqual(read_tree(text), read_tree(text))
        self.assertEqual(text, "kind k { x: number; } thing a: k { x = 1; }")


if __name__ == "__main__":
    unittest.main()
