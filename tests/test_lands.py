"""Point 7: the land of a tree or a text, and its attributes."""

import copy
import unittest

from itertools import combinations

from settledland.errors import InvalidLand, LandError, SyntaxProblem
from settledland.lands import Land, read_land
from settledland.reading import read_tree

from tests.test_rules import BROKEN, RULES, text_of

KINDS = "kind net { zone: number fixed; } kind box { at: ref net empty; size: number; port: number single empty; } "
TEXT = KINDS + """
    thing n: net { zone = 3; }
    thing b * 2: box { at = n; size = index + 4; }
    thing c * 2: box { size = told b.# + 5; at = none; port = index + 4294967295; }
    keep c.1; keep b.0; keep n; most 7;
    adopt 12 as n; adopt 0 as b.1;
    move old to c.0; move b to c.1; move a# to b.0;
"""
ATTRIBUTES = ("kinds", "things", "keeps", "most", "adopts", "moves")


def attributes_of(land):
    return {name: getattr(land, name) for name in ATTRIBUTES}


class LandOfTree(unittest.TestCase):
    def test_example(self):
        land = read_land(
            "kind net { zone: number fixed; } kind box { at: ref net empty; size: number; } "
            "thing n: net { zone = 3; } thing b * 2: box { at = n; size = index + 4; }"
        )
        self.assertEqual(sorted(land.things), ["b.0", "b.1", "n"])
        self.assertEqual(land.things["b.1"], ("box", {"at": ("name", "n"), "size": ("number", 5)}))

    def test_all_attributes(self):
        nothing = ("none",)
        expected = {
            "kinds": {
                "net": {"zone": ("", ("fixed",))},
                "box": {"at": ("net", ("empty",)), "size": ("", ()), "port": ("", ("empty", "single"))},
            },
            "things": {
                "n": ("net", {"zone": ("number", 3)}),
                "b.0": ("box", {"at": ("name", "n"), "size": ("number", 4), "port": nothing}),
                "b.1": ("box", {"at": ("name", "n"), "size": ("number", 5), "port": nothing}),
                "c.0": ("box", {"at": nothing, "size": ("told", "b.0", 5), "port": ("number", 4294967295)}),
                "c.1": ("box", {"at": nothing, "size": ("told", "b.1", 5), "port": ("number", 0)}),
            },
            "keeps": ("b.0", "c.1", "n"),
            "most": 7,
            "adopts": {"n": 12, "b.1": 0},
            "moves": {"c.0": "old", "c.1": "b", "b.0": "a#"},
        }
        for land in (read_land(TEXT), Land(read_tree(TEXT))):
            self.assertEqual(attributes_of(land), expected)

    def test_nothing(self):
        for text in ("", "! note"):
            self.assertEqual(
                attributes_of(read_land(text)),
                {"kinds": {}, "things": {}, "keeps": (), "most": None, "adopts": {}, "moves": {}},
            )

    def test_sorts_of_attributes(self):
        for text in ("", TEXT):
            land = read_land(text)
            sorts = [type(value) for value in attributes_of(land).values()]
            self.assertEqual(sorts, [dict, dict, tuple, int if text else type(None), dict, dict])
            for kind, fields in land.things.values():
                self.assertEqual((type(kind), type(fields)), (str, dict))
            for fields in land.kinds.values():
                self.assertEqual(type(fields), dict)

    def test_kinds_without_fields_and_things(self):
        land = read_land("kind k { } kind j { x: ref k; y: ref j empty fixed; }")
        self.assertEqual(land.kinds, {"k": {}, "j": {"x": ("k", ()), "y": ("j", ("empty", "fixed"))}})
        self.assertEqual(land.things, {})

    def test_things_without_values(self):
        land = read_land("kind k { } kind j { x: number empty; y: ref k empty; } thing a: k { } thing b * 1: j { }")
        self.assertEqual(land.things, {"a": ("k", {}), "b.0": ("j", {"x": ("none",), "y": ("none",)})})
        self.assertEqual(read_land("kind k { } thing a * 0: k { }").things, {})

    def test_keeps_are_ascending(self):
        kinds = "kind k { } "
        things = "thing b: k { } thing a * 12: k { } thing B: k { } "
        keeps = "keep b; keep a.2; keep a.10; keep B; keep a.1; "
        for text in (kinds + things + keeps, kinds + keeps + things):
            self.assertEqual(read_land(text).keeps, ("B", "a.1", "a.10", "a.2", "b"))
        self.assertEqual(read_land(kinds + things + "keep b;").keeps, ("b",))
        self.assertEqual(read_land(kinds + things + "keep b; keep a.0; keep b;").keeps, ("a.0", "b"))

    def test_most(self):
        for written, most in (("", None), ("most 0;", 0), ("most 3;", 3), ("most 4294967295;", 4294967295)):
            self.assertEqual(read_land(written).most, most)

    def test_adopts_and_moves_apart(self):
        things = "kind k { } thing a: k { } "
        land = read_land(things + "adopt 4294967295 as a;")
        self.assertEqual((land.adopts, land.moves), ({"a": 4294967295}, {}))
        land = read_land(things + "move b to a;")
        self.assertEqual((land.adopts, land.moves), ({}, {"a": "b"}))

    def test_broken_rules(self):
        for rule, later in combinations(RULES, 2):
            for text in (text_of(rule), text_of(rule, later)):
                with self.assertRaises(InvalidLand) as caught:
                    Land(read_tree(text))
                self.assertEqual(caught.exception.rule, rule, text)
                with self.assertRaises(InvalidLand) as caught:
                    read_land(text)
                self.assertEqual(caught.exception.rule, rule, text)
        with self.assertRaises(InvalidLand) as caught:
            read_land(text_of(*BROKEN))
        self.assertEqual(caught.exception.rule, "kinds")

    def test_very_many_things(self):
        with self.assertRaises(InvalidLand) as caught:
            read_land("kind k { } thing a * 4294967295: k { }")
        self.assertEqual(caught.exception.rule, "things")

    def test_text_that_cannot_be_read(self):
        for text, start in (
            ("kind", 4),
            ("keep 1;", 5),
            (TEXT + "}", len(TEXT)),
            (text_of("kinds") + " ,", len(text_of("kinds")) + 1),
            ("keep nobody; keep", 17),
        ):
            with self.assertRaises(SyntaxProblem) as caught:
                read_land(text)
            self.assertEqual(caught.exception.start, start)
            self.assertIsInstance(caught.exception, LandError)


class Apart(unittest.TestCase):
    def test_tree_stays_as_it_was(self):
        tree = read_tree(TEXT)
        before = copy.deepcopy(tree)
        land = Land(tree)
        land.kinds["box"]["at"] = None
        land.things.clear()
        self.assertEqual(tree, before)

    def test_lands_of_one_tree_share_nothing(self):
        tree = read_tree(TEXT)
        first, second, third = Land(tree), Land(tree), read_land(TEXT)
        expected = copy.deepcopy(attributes_of(first))
        first.kinds["net"].clear()
        first.kinds["more"] = {}
        first.things["b.0"][1]["at"] = ("none",)
        del first.things["n"]
        first.adopts["x"] = 1
        first.moves.clear()
        self.assertEqual(attributes_of(second), expected)
        self.assertEqual(attributes_of(third), expected)


if __name__ == "__main__":
    unittest.main()
