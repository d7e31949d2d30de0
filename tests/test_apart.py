"""Point 2: objects keep nothing that they were passed, nothing that is passed is modified,
and what is returned is new."""

import copy
import unittest

from settledland.errors import InvalidJournal
from settledland.journal import State, next_run
from settledland.lands import read_land
from settledland.outside import Outside, outside_of
from settledland.printing import print_tree
from settledland.reading import read_tree

from tests.test_journal import ATTRIBUTES, BEGINNING, attributes_of
from tests.worlds import KINDS, MARK, WorldCase, box, net


def spoil(kinds):
    """Changes a dict of kinds in many ways."""
    kinds["net"].clear()
    kinds["box"]["at"] = ("", ("fixed",))
    del kinds["dot"]
    kinds["more"] = {}


class Outsides(WorldCase):
    def check_kinds(self, outside):
        self.assertEqual(outside.make("more", ()), ("refused", "form"))
        self.assertEqual(outside.make("net", ()), ("refused", "form"))
        self.assertEqual(outside.make("net", net(90)), ("done",))
        self.assertEqual(outside.make("dot", ()), ("done",))
        number = outside.look()[2][-2][0]
        self.assertEqual(outside.make("box", box(number)), ("done",))
        self.assertEqual(outside.change(number + 2, "at", number), ("done",))
        self.assertEqual(outside.take(number), ("refused", "needed"))

    def test_kinds_that_are_changed_afterwards(self):
        kinds = copy.deepcopy(KINDS)
        outside = Outside(kinds)
        again = outside_of(kinds, self.outside.look())
        spoil(kinds)
        self.check_kinds(outside)
        self.check_kinds(again)

    def test_kinds_of_a_land_that_are_changed_afterwards(self):
        land = read_land("kind net { zone: number fixed; } thing n: net { zone = 3; }")
        outside = Outside(land.kinds)
        land.kinds["net"]["zone"] = ("", ("empty",))
        self.assertEqual(outside.make("net", (("zone", None),)), ("refused", "form"))

    def test_kinds_and_looks_are_not_modified(self):
        kinds = copy.deepcopy(KINDS)
        look = self.outside.look()
        before = copy.deepcopy(look)
        outside = outside_of(kinds, look)
        for call in (
            ("fence", (5, 3)),
            ("make", (5, 3), (5, 9), "net", net(44)),
            ("change", (5, 3), 4, 1, "up", None),
            ("take", (5, 3), 4, 2),
            ("take", (5, 3), 3, 1),
        ):
            told = copy.deepcopy(call)
            self.assertEqual(outside.do(call), ("done",))
            self.assertEqual(call, told)
        self.assertEqual(look, before)
        self.assertEqual(kinds, KINDS)

    def test_looks_stay_as_they_were(self):
        look = self.outside.look()
        before = copy.deepcopy(look)
        self.done(("change", MARK, 3, 1, "size", 9))
        self.done(("fence", (5, 8)))
        self.done(("take", (5, 8), 4, 1))
        self.assertEqual(look, before)
        self.assertNotEqual(self.outside.look(), before)

    def test_looks_hold_no_lists_and_no_dicts(self):
        rows = [self.outside.look()]
        while rows:
            row = rows.pop()
            self.assertIn(type(row), (tuple, int, str, type(None)))
            rows.extend(row if isinstance(row, tuple) else ())

    def test_errors_change_nothing(self):
        self.invalid(("fence", (5, 9), 1), ("make", (5, 9), (5, 9), "net", list(net(44))), ("take", MARK, 4, "1"))

    def test_outsides_are_apart(self):
        first, second = Outside(KINDS), Outside(KINDS)
        first.do(("make", MARK, (5, 0), "dot", ()))
        self.assertEqual((second.look(), second.calls()), ((0, (), (), ()), 0))


class Journals(unittest.TestCase):
    def test_journal_that_is_changed_afterwards(self):
        entries = list(BEGINNING)
        state = State(entries)
        before = copy.deepcopy(attributes_of(state))
        entries.append(("run", 9))
        entries[0] = ("run", 1)
        del entries[1:]
        self.assertEqual(attributes_of(state), before)

    def test_journals_are_not_modified(self):
        for entries in (list(BEGINNING), BEGINNING, []):
            before = copy.deepcopy(entries)
            State(entries)
            next_run(entries)
            self.assertEqual(entries, before)
        entries = [*BEGINNING, ("gone", 5), ("gone", 5)]
        before = list(entries)
        with self.assertRaises(InvalidJournal):
            State(entries)
        self.assertEqual(entries, before)

    def test_states_are_apart(self):
        first, second = State(BEGINNING), State(BEGINNING)
        before = copy.deepcopy(attributes_of(second))
        first.bound["x"] = 1
        first.begun.clear()
        first.leftovers.append(99)
        self.assertEqual(attributes_of(second), before)
        self.assertEqual(attributes_of(State(BEGINNING)), before)
        self.assertEqual(attributes_of(State([])), attributes_of(State(())))
        for name in ATTRIBUTES:
            if isinstance(getattr(first, name), (list, dict)):
                self.assertIsNot(getattr(State([]), name), getattr(State([]), name))


class Trees(unittest.TestCase):
    def test_printing_modifies_nothing(self):
        tree = read_tree("kind k { x: number single; } thing a * 2: k { x = index + 3; } keep a.0; most 3;")
        before = copy.deepcopy(tree)
        self.assertEqual(print_tree(tree), print_tree(tree))
        self.assertEqual(tree, before)


if __name__ == "__main__":
    unittest.main()
