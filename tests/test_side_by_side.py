"""Points 15 and 18 together: a land under other names, a land that adopts what is there, and
owners side by side."""

import unittest

from settledland.calm import calm
from settledland.journal import State, next_run
from settledland.lands import Land
from settledland.outside import Outside
from settledland.reading import read_tree

from tests.stories import KINDS, Drawer, Story, in_order

TEXT = """
    kind net { zone: number fixed; code: number single empty; }
    kind box { at: ref net fixed; port: number single; up: ref box empty; }
    thing n: net { zone = 3; code = 1; } thing m: net { zone = 4; }
    thing a * 2: box { at = n; port = index + 5; } thing b: box { at = m; port = told n; up = a.1; }
"""


def settled_world(land, number):
    """Returns an outside in which the land of an owner is settled, and the journal; None if
    it cannot be settled."""
    outside = Outside(land.kinds)
    entries, _, result = calm(land, number, [("run", 1)], outside)
    return (outside, entries) if result == ("settled",) else None


def with_items(land, table, items):
    """Returns the land with other names, and with these items more."""
    things = []
    for name, (kind, values) in in_order(land):
        values = {
            field: (value[0], table[value[1]], *value[2:]) if value[0] in ("name", "told") else value
            for field, value in values.items()
        }
        things.append(("thing", table[name], None, kind, tuple(values.items())))
    kinds = tuple(
        (kind, tuple((field, target, marks) for field, (target, marks) in fields.items()))
        for kind, fields in land.kinds.items()
    )
    return Land((kinds, tuple(things + items)))


def drawn_lands(seed, many):
    """Returns drawn lands that can be settled at once."""
    drawer = Drawer(seed, bars=0)
    found = []
    while len(found) < many:
        land = drawer.land()
        if settled_world(land, 5):
            found.append(land)
    return found


class Moves(unittest.TestCase):
    def check(self, land):
        outside, entries = settled_world(land, 5)
        table = {name: "new." + name for name in land.things}
        moves = [("move", old, new) for old, new in table.items()]
        other = with_items(land, table, moves + [("most", 0)] + [("keep", new) for new in table.values()])
        before = outside.look()
        journal = entries + [next_run(entries)]
        told, calls, result = calm(other, 5, journal, outside)
        self.assertEqual((calls, result), ([("fence", (5, 2))], ("settled",)))
        self.assertEqual(outside.look()[2:], before[2:])
        self.assertEqual(told[len(journal) :], [("move", old, table[old]) for old in sorted(table)])
        bound = {table[name]: number for name, number in State(entries).bound.items()}
        self.assertEqual(State(told).bound, bound)

    def test_written_land(self):
        self.check(Land(read_tree(TEXT)))

    def test_drawn_lands(self):
        for land in drawn_lands(1, 40):
            self.check(land)


class Adopts(unittest.TestCase):
    def check(self, land):
        # The things of a settled land are made anew by others, with the same ids and values.
        made, entries = settled_world(land, 5)
        outside = Outside(land.kinds)
        for _, kind, values, _, _, _ in made.look()[2]:
            self.assertEqual(outside.make(kind, values), ("done",))
        bound = State(entries).bound
        adopts = [("adopt", number, name) for name, number in bound.items()]
        other = with_items(land, {name: name for name in land.things}, adopts + [("most", 0)])
        before = outside.look()
        told, calls, result = calm(other, 5, [("run", 1)], outside)
        self.assertEqual((calls, result), ([("fence", (5, 1))], ("settled",)))
        self.assertEqual(outside.look()[2:], before[2:])
        moment = before[0] + 1
        self.assertEqual(told[1:], [("adopt", name, bound[name], moment) for name in sorted(bound)])

    def test_written_land(self):
        self.check(Land(read_tree(TEXT)))

    def test_drawn_lands(self):
        many = 0
        for land in drawn_lands(2, 60):
            made, _ = settled_world(land, 5)
            # Things can be made anew in the order of their ids if each was made so.
            if all(thing[3] == 1 for thing in made.look()[2]):
                self.check(land)
                many += 1
        self.assertGreater(many, 20)


class Owners(unittest.TestCase):
    def test_same_land_for_two_owners(self):
        land = Land(read_tree(TEXT.replace("single", "")))
        outside = Outside(land.kinds)
        first, _, result = calm(land, 5, [("run", 1)], outside)
        self.assertEqual(result, ("settled",))
        before = outside.look()
        second, calls, result = calm(land, 6, [("run", 1)], outside)
        self.assertEqual((result, len(calls)), (("settled",), 1 + len(land.things)))
        self.assertEqual(outside.look()[2][: len(before[2])], before[2])
        self.assertEqual(set(State(first).bound.values()) & set(State(second).bound.values()), set())
        # Neither has anything to do any more, and each can go without the other.
        self.assertEqual(calm(land, 5, first, outside), (first, [], ("settled",)))
        empty = Land((read_tree(TEXT.replace("single", ""))[0], ()))
        gone, calls, result = calm(empty, 5, first + [("run", 2)], outside)
        self.assertEqual((result, len(calls)), (("settled",), 1 + len(land.things)))
        self.assertEqual(State(gone).bound, {})
        self.assertEqual(calm(land, 6, second, outside), (second, [], ("settled",)))

    def test_single_numbers_of_the_other_owner(self):
        land = Land(read_tree(TEXT))
        outside = Outside(land.kinds)
        first, _, _ = calm(land, 5, [("run", 1)], outside)
        before = outside.look()
        _, calls, result = calm(land, 6, [("run", 1)], outside)
        self.assertEqual(result[0], "stuck")
        self.assertIn(("make", "n", ("borne", "code", State(first).bound["n"])), result[1])
        self.assertEqual(outside.look()[2][: len(before[2])], before[2])
        self.assertEqual(calm(land, 5, first, outside), (first, [], ("settled",)))

    def test_drawn_stories(self):
        for seed in range(60):
            story = Story(seed, (5, 6))
            for _ in range(60):
                before = {thing[0]: thing for thing in story.look()[2]}
                at = len(story.history)
                story.event()
                for _, number, call in story.history[at:]:
                    if number is not None and call[0] in ("change", "take"):
                        # It was made by this owner, or is one of others that was adopted.
                        self.assertIn(before[call[2]][5][:1], ((number,), ()))

    def test_two_owners_in_calm_times_by_turns(self):
        for seed in range(20):
            story = Story(seed, (5, 6), bars=0)
            results = {}
            for _ in range(300):
                for owner in story.owners:
                    before = {thing[0]: thing for thing in story.look()[2]}
                    _, results[owner.number] = story.decide(owner, story.look())
                    if results[owner.number][0] in ("fence", "make", "change", "take"):
                        self.assertEqual(story.do(owner, results[owner.number]), ("done",))
                        for thing in before.values():
                            if thing[5][:1] not in ((), (owner.number,)):
                                self.assertIn(thing, story.look()[2])
            for result in results.values():
                self.assertIn(result[0], ("settled", "stuck"))


class Kinds(unittest.TestCase):
    def test_drawn_lands_have_all_marks(self):
        marks = {mark for _, fields in KINDS for _, _, found in fields for mark in found}
        self.assertEqual(marks, {"empty", "fixed", "single"})


if __name__ == "__main__":
    unittest.main()
