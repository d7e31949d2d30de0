"""Point 2, for the decider and what goes by it: no argument is modified, what is returned is
new at each call, and errors change nothing."""

import copy
import unittest

from settledland.calm import calm
from settledland.decider import decide
from settledland.errors import InvalidJournal, LandError
from settledland.journal import State
from settledland.lands import Land, read_land
from settledland.newness import lets, to_make
from settledland.outside import Outside
from settledland.previews import preview, report

from tests.stories import Story
from tests.test_journal import attributes_of

LAND = ("kinds", "things", "keeps", "most", "adopts", "moves")


def parts_of(value):
    """Returns what a value shows, in values of Python alone."""
    if isinstance(value, Land):
        return {name: copy.deepcopy(getattr(value, name)) for name in LAND}
    if isinstance(value, State):
        return copy.deepcopy(attributes_of(value))
    if isinstance(value, Outside):
        return (value.look(), value.calls())
    return copy.deepcopy(value)


def spoil(value):
    """Changes all lists and dicts in a value."""
    if isinstance(value, dict):
        for inner in list(value.values()):
            spoil(inner)
        value.clear()
    elif isinstance(value, (list, tuple)):
        for inner in value:
            spoil(inner)
        if isinstance(value, list):
            value.append("more")
            value.reverse()


class ApartCase(unittest.TestCase):
    def check(self, function, *arguments):
        """Checks that nothing is modified, and that what is returned is new."""
        before = [parts_of(argument) for argument in arguments]
        first = function(*arguments)
        self.assertEqual([parts_of(argument) for argument in arguments], before)
        kept = copy.deepcopy(first)
        second = function(*arguments)
        self.assertEqual(second, kept)
        spoil(second)
        self.assertEqual(first, kept)
        self.assertEqual(function(*arguments), kept)
        self.assertEqual([parts_of(argument) for argument in arguments], before)
        return kept


def stories():
    """Returns drawn stories, with the first owner and the newest look of each."""
    for seed in range(60):
        story = Story(seed)
        for _ in range(35):
            story.event()
        yield story, story.owners[0], story.look()


class Arguments(ApartCase):
    def test_newness(self):
        for _, owner, look in stories():
            state = State(owner.journal)
            if set(state.bound.values()) <= {thing[0] for thing in look[2]}:
                self.check(lets, owner.land, state, look)
                self.check(to_make, owner.land, state, look)

    def test_decide_preview_and_report(self):
        for _, owner, look in stories():
            for function in (decide, preview, report):
                told = self.check(function, owner.land, owner.number, owner.journal, look)
                self.assertEqual(told, function(owner.land, owner.number, tuple(owner.journal), look))
                # Looks that are too old, and those of another fence.
                self.check(function, owner.land, owner.number, owner.journal, (0, *look[1:]))
                self.check(function, owner.land, owner.number, owner.journal, (look[0], (), *look[2:]))

    def test_results_hold_no_lists_and_no_dicts(self):
        for _, owner, look in stories():
            arguments = (owner.land, owner.number, owner.journal, look)
            rows = [decide(*arguments), preview(*arguments)]
            while rows:
                row = rows.pop()
                self.assertIn(type(row), (tuple, int, str, type(None)))
                rows.extend(row if isinstance(row, tuple) else ())

    def test_decide_does_not_change_the_outside(self):
        for story, owner, _ in stories():
            before = parts_of(story.outside)
            for function in (decide, preview, report):
                function(owner.land, owner.number, owner.journal, story.outside.look())
            self.assertEqual(parts_of(story.outside), before)

    def test_calm(self):
        for story, owner, _ in stories():
            land, journal = parts_of(owner.land), copy.deepcopy(owner.journal)
            told = calm(owner.land, owner.number, owner.journal, story.outside)
            self.assertEqual((parts_of(owner.land), owner.journal), (land, journal))
            self.assertIsInstance(told, tuple)
            self.assertEqual([type(part) for part in told], [list, list, tuple])
            self.assertIsNot(told[0], owner.journal)
            # From now on the land is at rest: the next call tells new lists.
            kept = copy.deepcopy(told[0])
            again = calm(owner.land, owner.number, told[0], story.outside)
            self.assertEqual(again[:2], (kept, []))
            self.assertIsNot(again[0], told[0])
            spoil(again)
            self.assertEqual(told[0], kept)

    def test_calm_with_a_tuple(self):
        for story, owner, _ in stories():
            twin = Outside(owner.land.kinds)
            twin._begin(story.outside.look())
            told = calm(owner.land, owner.number, tuple(owner.journal), twin)
            self.assertIsInstance(told[0], list)
            self.assertEqual(told[2][0], calm(owner.land, owner.number, owner.journal, story.outside)[2][0])


class Changed(unittest.TestCase):
    def test_arguments_that_are_changed_afterwards(self):
        land = read_land("kind net { zone: number fixed; } thing n: net { zone = 3; } keep n; adopt 9 as n;")
        outside, journal = Outside(land.kinds), [("run", 1)]
        entries, calls, result = calm(land, 5, journal, outside)
        told = preview(land, 5, journal, (0, (), (), ()))
        kept = (copy.deepcopy(entries), copy.deepcopy(calls), result, copy.deepcopy(told))
        journal.append(("run", 2))
        land.things.clear()
        land.kinds.clear()
        land.adopts.clear()
        self.assertEqual((entries, calls, result, told), kept)
        self.assertEqual(outside.make("net", (("zone", 5),)), ("done",))


class Errors(unittest.TestCase):
    LAND = read_land("kind net { zone: number fixed; } thing n: net { zone = 3; }")

    def test_errors_change_nothing(self):
        for journal in ([], [("run", 1), ("let", "n")], [("run", 1), ("run", 1)], [("begin", "n", 0)]):
            outside = Outside(self.LAND.kinds)
            outside.do(("fence", (5, 1)))
            before = (parts_of(outside), copy.deepcopy(journal), parts_of(self.LAND))
            with self.assertRaises(InvalidJournal):
                calm(self.LAND, 5, journal, outside)
            for function in (decide, preview, report):
                with self.assertRaises(LandError):
                    function(self.LAND, 5, journal, outside.look())
            self.assertEqual((parts_of(outside), journal, parts_of(self.LAND)), before)


if __name__ == "__main__":
    unittest.main()
