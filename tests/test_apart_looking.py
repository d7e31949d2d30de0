"""Point 2, for judges, rounds and looking without acting."""

import copy
import unittest

from settledland.errors import InvalidJournal
from settledland.journal import State, next_run
from settledland.judges import judge_preview, judge_stuck
from settledland.lands import OwnLand, read_land
from settledland.looking import cause, change_of_texts, drift, taking_order, write_land
from settledland.newness import lets
from settledland.outside import Outside
from settledland.previews import preview
from settledland.rounds import calm_rounds, decide_round

from tests.test_apart_deciding import LAND, ApartCase, parts_of, spoil, stories


class Arguments(ApartCase):
    def test_rounds(self):
        for _, owner, look in stories():
            told = self.check(decide_round, owner.land, owner.number, owner.journal, look)
            self.assertEqual([type(part) for part in told], [tuple, tuple])
            self.assertEqual(told, decide_round(owner.land, owner.number, tuple(owner.journal), look))

    def test_calm_rounds(self):
        for story, owner, _ in stories():
            land, journal = parts_of(owner.land), copy.deepcopy(owner.journal)
            told = calm_rounds(owner.land, owner.number, owner.journal, story.outside)
            self.assertEqual((parts_of(owner.land), owner.journal), (land, journal))
            self.assertIsNot(told[0], owner.journal)
            kept = copy.deepcopy(told[0])
            again = calm_rounds(owner.land, owner.number, told[0], story.outside)
            self.assertEqual(again[:2], (kept, []))
            spoil(again)
            self.assertEqual(told[0], kept)

    def test_judges(self):
        for _, owner, look in stories():
            scene = (owner.land, owner.number, owner.journal, look)
            given = preview(*scene)
            self.check(judge_preview, *scene, given)
            self.check(judge_preview, *scene, (given[0][1:], ("settled",), *given[2:]))
            paper = given[1][1] if given[1][0] == "stuck" else (("make", "a", ("wait", "at", "b")),)
            self.check(judge_stuck, *scene, paper)

    def test_drift_and_cause(self):
        for _, owner, look in stories():
            self.check(drift, owner.land, owner.number, owner.journal, look)
            state = State(owner.journal)
            if set(state.bound.values()) <= {thing[0] for thing in look[2]}:
                for name in lets(owner.land, state, look):
                    self.check(cause, owner.land, state, look, name)

    def test_changes_of_texts(self):
        for story, owner, _ in stories():
            first, second = owner.land, story.drawer.land(owner.land)
            told = self.check(change_of_texts, first, second)
            self.assertEqual(set(told.values()) - {"made", "taken", "new", "changed", "same"}, set())

    def test_written_lands_and_orders(self):
        for story, _, look in stories():
            ids = [thing[0] for thing in look[2]]
            self.check(write_land, story.kinds, look, ids)
            self.check(write_land, story.kinds, look, ids[::-2])
            self.check(taking_order, story.kinds, look, ids[::-1])
            self.check(taking_order, story.kinds, look, ids[::2])


class Errors(unittest.TestCase):
    LAND = read_land("kind net { zone: number fixed; } thing n: net { zone = 3; }")

    def test_errors_change_nothing(self):
        for journal in ([("run", 1), ("let", "n")], [("run", 1), ("run", 1)], [("run", 1), ("adopt", "n", 1)]):
            outside = Outside(self.LAND.kinds)
            outside.do(("fence", (5, 1)))
            before = (parts_of(outside), copy.deepcopy(journal), parts_of(self.LAND))
            scene = (self.LAND, 5, journal, outside.look())
            for function in (decide_round, drift, next_run_of):
                with self.assertRaises(InvalidJournal):
                    function(*scene)
            with self.assertRaises(InvalidJournal):
                judge_preview(*scene, ((), ("settled",), (), ()))
            with self.assertRaises(InvalidJournal):
                judge_stuck(*scene, ())
            with self.assertRaises(InvalidJournal):
                calm_rounds(self.LAND, 5, journal, outside)
            self.assertEqual((parts_of(outside), journal, parts_of(self.LAND)), before)


def next_run_of(_land, _owner, journal, _look):
    return next_run(journal)


class OwnLands(unittest.TestCase):
    def test_own_lands_are_as_the_land(self):
        for _, owner, _ in stories():
            own = OwnLand(owner.land)
            for name in LAND:
                self.assertEqual(getattr(own, name), getattr(owner.land, name))
            kept = parts_of(owner.land)
            for name in ("kinds", "things", "adopts", "moves"):
                spoil(getattr(own, name))
            self.assertEqual(parts_of(owner.land), kept)


if __name__ == "__main__":
    unittest.main()
