"""Point 7: the rules that a tree must keep, and their order."""

import copy
import unittest

from itertools import combinations, permutations

from settledland.errors import InvalidLand
from settledland.reading import read_tree
from settledland.rules import check_tree

# Kinds and items of a text that break each rule and no other one. All of them
# together use different names, so that any two of them can stand in one text.
BROKEN = {
    "kinds": ("kind kinds_ { } kind kinds_ { }", ""),
    "fields": ("kind fields_ { x: number; x: number; }", ""),
    "target": ("kind target_ { x: ref nothing; }", ""),
    "marks": ("kind marks_ { x: ref marks_ empty single; }", ""),
    "things": ("kind things_ { }", "thing a1: things_ { } thing a1: things_ { }"),
    "kind": ("", "thing a2: nothing { }"),
    "values": ("kind values_ { }", "thing a3: values_ { x = 1; }"),
    "missing": ("kind missing_ { x: number; }", "thing a4: missing_ { }"),
    "sort": ("kind sort_ { x: number; }", "thing b5: sort_ { x = 1; } thing a5: sort_ { x = b5; }"),
    "name": ("kind name_ { x: number; }", "thing a6: name_ { x = told nobody; }"),
    "circle": ("kind circle_ { x: ref circle_; }", "thing a7: circle_ { x = a7; }"),
    "clash": (
        "kind clash_ { x: number single; }",
        "thing a8: clash_ { x = 1; } thing b8: clash_ { x = 1; }",
    ),
    "items": ("", "keep nobody;"),
}
RULES = list(BROKEN)
OF_THINGS = ("kind", "values", "missing", "sort", "name")


def broken_rule(text):
    """Returns the rule that check_tree tells of, or None."""
    tree = read_tree(text)
    before = copy.deepcopy(tree)
    try:
        answer = check_tree(tree)
    except InvalidLand as problem:
        answer = problem.rule
        assert answer in RULES
    assert tree == before
    return answer


def text_of(*rules):
    return " ".join([BROKEN[rule][0] for rule in rules] + [BROKEN[rule][1] for rule in rules])


class RuleCase(unittest.TestCase):
    def breaks(self, rule, *texts):
        for text in texts:
            self.assertEqual(broken_rule(text), rule, text)

    def keeps(self, *texts):
        self.breaks(None, *texts)


class Order(RuleCase):
    def test_one_broken_rule(self):
        for rule in RULES:
            self.breaks(rule, text_of(rule))

    def test_two_broken_rules(self):
        for rule, later in combinations(RULES, 2):
            self.breaks(rule, text_of(rule, later))

    def test_two_broken_rules_the_later_one_in_front(self):
        for rule, later in combinations(RULES, 2):
            if rule not in OF_THINGS or later not in OF_THINGS:
                self.breaks(rule, text_of(later, rule))

    def test_rules_of_things_are_looked_at_thing_by_thing(self):
        for rule, other in permutations(OF_THINGS, 2):
            self.breaks(rule, text_of(rule, other))

    def test_two_broken_rules_in_one_thing(self):
        kinds = "kind j { } kind k { x: number; y: ref j empty; } "
        self.breaks("kind", kinds + "thing a: i { x = b; x = a; }")
        self.breaks("values", kinds + "thing a: k { z = b; }", kinds + "thing a: k { y = 1; y = 1; }")
        self.breaks("missing", kinds + "thing a: k { y = 1; }", kinds + "thing a: k { x = none; y = b; }")
        self.breaks("sort", kinds + "thing a: k { x = told b; y = 1; }", kinds + "thing a: k { x = a; }")
        self.breaks("name", kinds + "thing a: k { x = 1; y = a; }")

    def test_three_broken_rules(self):
        for first, second, third in combinations(RULES, 3):
            self.breaks(first, text_of(first, second, third))


class Kinds(RuleCase):
    def test_trees_without_things(self):
        self.keeps("", "! note", "kind k { }", "most 0;", "most 4294967295;")

    def test_number_of_kinds(self):
        six = " ".join(f"kind k{n} {{ }}" for n in range(6))
        self.keeps(six)
        self.breaks("kinds", six + " kind k6 { }", six + " kind k0 { }")

    def test_names_of_kinds(self):
        self.breaks("kinds", "kind a { } kind b { } kind a { }")
        self.keeps("kind a { } kind A { } kind a# { }")

    def test_number_of_fields(self):
        six = " ".join(f"x{n}: number;" for n in range(6))
        self.keeps("kind k { " + six + " }", "kind k { " + six + " } kind j { " + six + " }")
        self.breaks("fields", "kind k { " + six + " x6: number; }", "kind j { } kind k { " + six + " x6: ref k; }")

    def test_names_of_fields(self):
        self.keeps("kind k { x: number; } kind j { x: number; }", "kind k { k: number; }")
        self.breaks("fields", "kind k { x: number; y: number; x: ref k; }", "kind j { } kind k { x: ref k; x: ref k; }")

    def test_targets(self):
        self.keeps("kind k { x: ref k; }", "kind k { x: ref j; } kind j { }", "kind j { } kind k { x: ref j; }")
        self.breaks("target", "kind k { x: ref K; }", "kind k { x: number; y: ref x; } thing j: k { x = 1; }")

    def test_marks(self):
        self.keeps(
            "kind k { x: number single; }",
            "kind k { x: number single empty fixed; }",
            "kind k { x: ref k fixed empty; }",
        )
        self.breaks("marks", "kind k { x: ref k single; }", "kind k { x: ref k fixed empty single; }")

    def test_earlier_rule_in_a_later_kind(self):
        self.breaks("fields", "kind k { x: ref j single; } kind i { x: number; x: number; }")
        self.breaks("target", "kind k { x: ref k single; } kind i { x: ref j; }")


class Things(RuleCase):
    def test_number_of_things(self):
        forty = " ".join(f"thing a{n}: k {{ }}" for n in range(40))
        self.keeps("kind k { } " + forty, "kind k { } thing a * 40: k { }")
        self.keeps("kind k { } thing a * 20: k { } thing b: k { } thing c * 19: k { } thing d * 0: k { }")
        self.breaks(
            "things",
            "kind k { } " + forty + " thing b: k { }",
            "kind k { } " + forty + " thing b * 1: k { }",
            "kind k { } thing a * 41: k { }",
            "kind k { } thing a * 20: k { } thing b * 21: k { }",
            "kind k { } thing a * 40: k { } thing b: k { }",
        )

    def test_very_many_things(self):
        self.breaks("things", "kind k { } thing a * 4294967295: k { x = index; }")
        self.breaks("kinds", "kind k { } kind k { } thing a * 4294967295: k { }")
        self.keeps("kind k { } thing a * 4294967296: k { }")

    def test_names_of_things(self):
        self.keeps(
            "kind k { } thing a: k { } thing a.2: k { } thing a * 2: k { }",
            "kind k { } thing k: k { } thing K: k { }",
            "kind k { } thing a * 0: k { } thing a * 0: k { }",
        )
        self.breaks(
            "things",
            "kind k { } kind j { } thing a: k { } thing a: j { }",
            "kind k { } thing a.1: k { } thing a * 2: k { }",
            "kind k { } thing a * 2: k { } thing a * 1: k { }",
            "kind k { } thing a.0 * 1: k { } thing a.0.0: k { }",
        )

    def test_signs_in_names_of_things(self):
        self.breaks("things", "kind k { } thing a#: k { }", "kind k { } thing a# * 1: k { }")
        self.keeps("kind k { } thing a# * 0: k { }")

    def test_signs_in_names_of_kinds_and_fields(self):
        self.keeps("kind k# { x#: number; } thing a: k# { x# = 1; }")
        self.keeps("kind k# { x#: number; } thing a * 2: k# { x# = index; }")

    def test_values_that_need_a_count(self):
        kinds = "kind k { x: number; y: ref k empty; } "
        self.breaks(
            "things",
            kinds + "thing a: k { x = index; }",
            kinds + "thing a: k { x = index + 4; }",
            kinds + "thing a: k { y = index; }",
            kinds + "thing a: k { x = 1; y = b#; }",
            kinds + "thing a: k { x = told b.#; }",
            kinds + "thing c * 2: k { x = index; } thing a: k { z = index; }",
        )
        self.keeps(
            kinds + "thing a * 1: k { x = index; }",
            kinds + "thing b.0: k { x = 1; } thing a * 1: k { x = told b.#; y = b.#; }",
            kinds + "thing a * 0: k { y = index; z = b#; }",
        )


class Values(RuleCase):
    kinds = "kind net { } kind box { at: ref net; up: ref box empty; size: number; port: number empty; } "
    things = "thing n: net { } thing b: box { at = n; size = 1; } "

    def breaks_with(self, rule, *values):
        self.breaks(rule, *[self.kinds + self.things + "thing c: box { " + text + " }" for text in values])

    def test_values_that_keep_the_rules(self):
        self.breaks_with(
            None,
            "at = n; size = 1;",
            "port = 4; size = 4; up = b; at = n;",
            "at = n; size = told b; port = told n + 4; up = none;",
            "at = n; size = 4294967295; port = none;",
        )

    def test_kind(self):
        self.breaks("kind", "thing a: k { }", self.kinds + "thing a: Box { }", self.kinds + "thing a: at { }")
        self.breaks("kind", self.kinds + self.things + "thing c * 2: b { }")
        self.keeps(self.kinds + "thing a * 0: nothing { x = 1; x = nobody; }")

    def test_values(self):
        self.breaks_with(
            "values",
            "at = n; size = 1; zone = 1;",
            "at = n; size = 1; at = n;",
            "size = 1; size = 2; at = n;",
            "at = n; size = 1; port = none; port = none;",
            "net = n;",
            "none. = none;",
        )

    def test_missing(self):
        self.breaks_with(
            "missing",
            "",
            "at = n;",
            "size = 1;",
            "at = none; size = 1;",
            "at = n; size = none;",
            "up = b; port = 1;",
        )

    def test_sort(self):
        self.breaks_with(
            "sort",
            "at = 1; size = 1;",
            "at = told n; size = 1;",
            "at = n; size = n;",
            "at = n; size = 1; port = b;",
            "at = n; size = 1; up = 0;",
            "at = n; size = 1; up = told b + 1;",
        )
        self.breaks("sort", self.kinds + self.things + "thing c * 1: box { at = index; size = 1; }")

    def test_name(self):
        self.breaks_with(
            "name",
            "at = m; size = 1;",
            "at = b; size = 1;",
            "at = net; size = 1;",
            "at = n; size = 1; up = n;",
            "at = n; size = told m;",
            "at = n; size = 1; port = told box + 1;",
        )

    def test_names_of_copies(self):
        kinds = "kind net { } kind box { at: ref net; } thing n * 2: net { } "
        self.keeps(kinds + "thing b * 2: box { at = n.#; } thing c: box { at = n.1; }")
        self.breaks(
            "name",
            kinds + "thing b * 3: box { at = n.#; }",
            kinds + "thing b: box { at = n; }",
            kinds + "thing b: box { at = n.2; }",
        )

    def test_names_of_later_things(self):
        self.keeps("kind net { } kind box { at: ref net; } thing b: box { at = n; } thing n: net { }")

    def test_earlier_rule_in_the_same_thing(self):
        self.breaks_with("missing", "at = m;", "up = 1;")
        self.breaks_with("sort", "at = m; size = n;", "at = 1; size = told m;")

    def test_thing_in_front_counts_first(self):
        self.breaks("name", self.kinds + "thing a: box { at = m; size = 1; } thing b: nothing { }")
        self.breaks("sort", self.kinds + "thing a: box { at = 1; size = 1; } thing b: box { }")
        self.breaks("kind", self.kinds + "thing b: nothing { } thing a: box { at = m; size = 1; }")


class Circle(RuleCase):
    kinds = "kind k { x: ref k empty; y: ref k empty; n: number empty; } "

    def test_circles(self):
        self.breaks(
            "circle",
            self.kinds + "thing a: k { x = a; }",
            self.kinds + "thing a: k { n = told a; }",
            self.kinds + "thing a: k { x = b; } thing b: k { x = a; }",
            self.kinds + "thing a: k { x = b; } thing b: k { n = told a + 3; }",
            self.kinds + "thing a: k { n = told b; } thing b: k { n = told a; }",
            self.kinds + "thing d: k { x = a; } thing a: k { y = b; } thing b: k { x = c; } thing c: k { y = a; }",
            self.kinds + "thing d: k { } thing a: k { x = d; y = b; } thing b: k { x = d; y = a; }",
            self.kinds + "thing a * 2: k { x = a.#; }",
            self.kinds + "thing a * 3: k { x = a.2; }",
        )

    def test_no_circles(self):
        self.keeps(
            self.kinds + "thing a: k { x = b; y = b; n = told b; } thing b: k { x = c; } thing c: k { }",
            self.kinds + "thing a: k { x = c; y = b; } thing b: k { x = d; } thing c: k { x = d; } thing d: k { }",
            self.kinds + "thing a: k { x = none; n = 1; }",
        )

    def test_long_chains(self):
        chain = " ".join(f"thing a{n}: k {{ x = a{n + 1}; }}" for n in range(39))
        self.keeps(self.kinds + chain + " thing a39: k { }")
        self.breaks("circle", self.kinds + chain + " thing a39: k { y = a0; }")


class Clash(RuleCase):
    kinds = "kind k { x: number single empty; y: number empty; z: number single empty; } kind j { x: number single; } "

    def test_clashes(self):
        self.breaks(
            "clash",
            self.kinds + "thing a: k { x = 4; } thing b: k { x = 4; }",
            self.kinds + "thing a: k { x = 0; } thing c: k { } thing b: k { y = 1; x = 0; }",
            self.kinds + "thing a: k { z = 4; } thing b: k { x = 4; z = 4; }",
            self.kinds + "thing a * 2: k { x = 4; }",
            self.kinds + "thing a * 3: k { x = index + 1; } thing b: k { x = 3; }",
            self.kinds + "thing a * 2: k { x = index + 4294967295; } thing b: k { x = 0; }",
            self.kinds + "thing a: k { x = 4294967296; } thing b: k { x = 0; }",
        )

    def test_no_clashes(self):
        self.keeps(
            self.kinds + "thing a: k { x = 4; y = 4; z = 4; } thing b: k { x = 5; y = 4; z = 5; }",
            self.kinds + "thing a: k { x = 4; } thing b: j { x = 4; }",
            self.kinds + "thing a: k { x = none; } thing b: k { x = none; } thing c: k { }",
            self.kinds + "thing c: k { } thing a: k { x = told c; } thing b: k { x = told c; }",
            self.kinds + "thing c: k { } thing a: k { x = told c + 4; } thing b: k { x = 4; }",
            self.kinds + "thing a * 3: k { x = index + 1; } thing b: k { x = 4; }",
            self.kinds + "thing a * 0: k { x = 4; } thing b: k { x = 4; }",
        )


class Items(RuleCase):
    things = "thing a: k { } thing b: k { } thing c * 2: k { } "
    land = "kind k { } " + things

    def test_items_that_keep_the_rules(self):
        self.keeps(
            self.land + "keep a; keep c.1; most 0;",
            self.land + "keep a; keep a;",
            "kind k { } keep a; most 3; " + self.things,
            self.land + "adopt 1 as a; adopt 2 as b; adopt 0 as c.0;",
            self.land + "move x to a; move y to b; move c to c.0; move c.2 to c.1;",
            self.land + "keep a; adopt 7 as a; move x to a;",
            self.land + "move k to a; move a# to b;",
        )

    def test_names_that_are_no_things(self):
        for name in ("d", "k", "c", "c.2", "c.#", "A"):
            self.breaks(
                "items",
                self.land + "keep " + name + ";",
                self.land + "adopt 1 as " + name + ";",
                self.land + "move x to " + name + ";",
            )

    def test_moves_from_things(self):
        for name in ("a", "b", "c.0", "c.1"):
            move = "move " + name + " to b; "
            self.breaks("items", self.land + move, "kind k { } " + move + self.things)

    def test_doubles(self):
        self.breaks(
            "items",
            self.land + "adopt 1 as a; adopt 2 as a;",
            self.land + "adopt 1 as a; adopt 1 as b;",
            self.land + "adopt 1 as a; adopt 1 as a;",
            self.land + "adopt 0 as a; adopt 4294967296 as b;",
            self.land + "move x to a; move x to b;",
            self.land + "move x to a; move y to a;",
            self.land + "move x to a; move x to a;",
            self.land + "most 1; most 2;",
            self.land + "most 1; keep a; most 1;",
        )


if __name__ == "__main__":
    unittest.main()
