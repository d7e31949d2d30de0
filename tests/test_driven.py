"""Point 28: driven worlds, against decide and an outside driven by hand."""

import collections
import copy
import random
import unittest

from settledland.decider import decide
from settledland.driven import Driven
from settledland.errors import InvalidCall, InvalidJournal
from settledland.journal import next_run
from settledland.lands import read_land
from settledland.outside import Outside

from tests.oracle import oracle_decide
from tests.stories import CALLS, Drawer, Story

TEXT = "kind net { zone: number fixed; size: number; } thing n: net { zone = 3; size = 4; } "
LAND = read_land(TEXT)
OTHER = read_land(TEXT.replace("size = 4", "size = 5"))
FENCE = ("fence", (5, 1))
MAKE = ("make", (5, 1), (5, 0), "net", (("size", 4), ("zone", 3)))


class ByHand:
    """A driven world, written apart."""

    def __init__(self, land, owner):
        self.land, self.owner = land, owner
        self.outside = Outside(land.kinds)
        self.looks, self.entries, self.told, self.noted = [], [], [], []

    def run(self, land):
        self.land = land
        self.entries.append(next_run(self.entries))
        self.noted.append(("run", self.entries[-1][1]))

    def decide(self, back):
        looks = self.looks + [self.outside.look()]
        found, result = oracle_decide(self.land, self.owner, self.entries, (looks[::-1] + [looks[0]] * back)[back])
        self.looks = looks
        self.entries.extend(found)
        self.noted.append(("told", result))
        if result[0] in CALLS:
            self.told.append(result)
        return result

    def do(self, number):
        answer = self.outside.do(self.told[number])
        self.noted.append(("did", number, answer))
        return answer

    def calm(self):
        while True:
            result = self.decide(0)
            if result[0] not in CALLS:
                return result
            self.do(len(self.told) - 1)


def shown(world):
    return (world.under_way(), world.journal(), world.events(), world.others().look(), world.others().calls())


class Worlds(unittest.TestCase):
    def setUp(self):
        self.world = Driven(LAND, 5)

    def check(self, told=(), journal=(), events=()):
        self.assertEqual(self.world.under_way(), list(told))
        self.assertEqual(self.world.journal(), list(journal))
        self.assertEqual(self.world.events(), list(events))

    def test_new_world(self):
        self.check()
        self.assertEqual(self.world.others().look(), (0, (), (), ()))
        self.assertIsInstance(self.world.others(), Outside)

    def test_runs(self):
        self.assertIsNone(self.world.run(LAND))
        self.assertIsNone(self.world.run(LAND))
        self.check((), [("run", 1), ("run", 2)], [("run", 1), ("run", 2)])

    def test_decisions_and_calls(self):
        world = self.world
        world.run(LAND)
        self.assertEqual(world.decide(0), FENCE)
        self.check([FENCE], [("run", 1)], [("run", 1), ("told", FENCE)])
        self.assertEqual(world.others().look()[0], 0)
        self.assertEqual(world.do(0), ("done",))
        self.assertEqual(world.decide(0), MAKE)
        self.assertEqual(world.journal(), [("run", 1), ("begin", "n", 0)])
        self.assertEqual(world.do(1), ("done",))
        self.assertEqual(world.do(1), ("done",))
        self.assertEqual(world.do(0), ("done",))
        self.assertEqual(world.decide(0), ("settled",))
        journal = [("run", 1), ("begin", "n", 0), ("bind", "n", 1, 2)]
        done = ("done",)
        events = [
            ("run", 1), ("told", FENCE), ("did", 0, done), ("told", MAKE), ("did", 1, done), ("did", 1, done),
            ("did", 0, done), ("told", ("settled",)),
        ]
        self.check([FENCE, MAKE], journal, events)

    def test_same_call_is_told_and_put_under_way_again(self):
        self.world.run(LAND)
        self.world.decide(0)
        self.world.decide(0)
        self.check([FENCE, FENCE], [("run", 1)], [("run", 1), ("told", FENCE), ("told", FENCE)])

    def test_calls_of_older_runs_are_refused(self):
        world = self.world
        world.run(LAND)
        world.decide(0)
        world.do(0)
        world.decide(0)
        world.run(OTHER)
        world.decide(0)
        self.assertEqual(world.do(2), ("done",))
        self.assertEqual(world.do(1), ("refused", "old"))
        self.assertEqual(world.events()[-1], ("did", 1, ("refused", "old")))

    def test_old_looks(self):
        world = self.world
        world.run(LAND)
        world.decide(0)  # the look of the moment 0
        world.do(0)
        self.assertEqual(world.decide(1), FENCE)
        self.assertEqual(world.decide(0), MAKE)
        world.do(2)
        # Looks so far: of the moments 0, 1, 1; the newest one is of the moment 2.
        self.assertEqual(world.decide(2), MAKE)
        self.assertEqual(world.decide(4), FENCE)
        self.assertEqual(world.decide(900), FENCE)
        self.assertEqual(world.decide(0), ("settled",))
        self.assertEqual(world.decide(5), ("old look",))
        self.assertEqual(world.decide(4), ("settled",))

    def test_oldest_look_is_the_newest_at_first(self):
        self.world.others().make("net", (("size", 1), ("zone", 1)))
        self.world.run(LAND)
        self.assertEqual(self.world.decide(7), FENCE)
        self.world.do(0)
        self.assertEqual(self.world.decide(7), FENCE)
        self.assertEqual(self.world.decide(0), MAKE)

    def test_looks_of_decisions_that_raise_are_not_kept(self):
        with self.assertRaises(InvalidJournal):
            self.world.decide(0)
        self.check()
        others = self.world.others()
        others.do(FENCE)
        self.world.run(LAND)
        # The oldest look is the one of now.
        self.assertEqual(self.world.decide(5), MAKE)

    def test_errors(self):
        world = self.world
        for function in (world.decide, lambda _: world.calm()):
            with self.assertRaises(InvalidJournal):
                function(0)
            self.check()
        world.run(LAND)
        world.decide(0)
        for number in (1, 2, -1, -2, 900):
            before = copy.deepcopy(shown(world)[:3])
            with self.assertRaises(InvalidCall):
                world.do(number)
            self.assertEqual(shown(world)[:3], before)
        self.assertEqual(world.do(0), ("done",))

    def test_deeds_of_others_are_not_noted(self):
        self.world.run(LAND)
        before = shown(self.world)[:3]
        others = self.world.others()
        self.assertEqual(others.make("net", (("size", 1), ("zone", 1))), ("done",))
        others.change(1, "size", 2)
        others.take(1)
        self.assertEqual(shown(self.world)[:3], before)
        self.assertIs(self.world.others(), others)
        self.assertEqual(others.look()[0], 3)

    def test_calm(self):
        world = self.world
        world.run(LAND)
        self.assertEqual(world.calm(), ("settled",))
        done = ("done",)
        events = [
            ("run", 1), ("told", FENCE), ("did", 0, done), ("told", MAKE), ("did", 1, done), ("told", ("settled",)),
        ]
        self.check([FENCE, MAKE], [("run", 1), ("begin", "n", 0), ("bind", "n", 1, 2)], events)
        self.assertEqual(world.do(1), ("done",))
        # The looks of the calm times were shown.
        self.assertEqual(world.decide(2), ("old look",))
        self.assertEqual(world.decide(2), ("settled",))

    def test_run_with_another_land(self):
        world = self.world
        world.run(LAND)
        world.calm()
        world.run(OTHER)
        self.assertEqual(world.calm(), ("settled",))
        self.assertEqual(world.under_way()[2:], [("fence", (5, 2)), ("change", (5, 2), 1, 1, "size", 5)])

    def test_world_begins_with_the_land(self):
        # The first land counts for the kinds; each run has the land that it is given.
        world = Driven(read_land(TEXT.replace("zone = 3", "zone = 7")), 6)
        world.run(LAND)
        world.calm()
        self.assertEqual(world.under_way()[1], ("make", (6, 1), (6, 0), "net", (("size", 4), ("zone", 3))))


class Apart(unittest.TestCase):
    def test_lists_are_new(self):
        world = Driven(LAND, 5)
        world.run(LAND)
        world.calm()
        before = copy.deepcopy(shown(world))
        for told in (world.under_way(), world.journal(), world.events()):
            told.append("more")
            told.reverse()
        self.assertEqual(shown(world), before)
        self.assertIsNot(world.journal(), world.journal())
        self.assertIsNot(world.events(), world.events())
        self.assertIsNot(world.under_way(), world.under_way())

    def test_lands_that_are_changed_afterwards(self):
        for where in ("first", "run"):
            land = read_land(TEXT + "keep n; most 3; adopt 9 as n; move o to n;")
            world = Driven(land, 5)
            if where == "run":
                world.run(land)
            land.kinds["net"]["zone"] = ("", ())
            land.things["n"][1]["zone"] = ("number", 99)
            land.things["m"] = ("net", {"zone": ("number", 1), "size": ("number", 1)})
            land.adopts.clear()
            land.moves["n"] = "z"
            if where == "first":
                world.run(LAND)
            self.assertEqual(world.calm(), ("settled",))
            self.assertEqual([call[0] for call in world.under_way()], ["fence", "make"])
            self.assertEqual(world.under_way()[1], MAKE)
            self.assertEqual(world.others().change(1, "zone", 4), ("refused", "form"))

    def test_lands_are_not_modified(self):
        land = read_land(TEXT + "keep n;")
        before = copy.deepcopy((land.kinds, land.things, land.keeps, land.most, land.adopts, land.moves))
        world = Driven(land, 5)
        world.run(land)
        world.calm()
        self.assertEqual((land.kinds, land.things, land.keeps, land.most, land.adopts, land.moves), before)

    def test_worlds_are_apart(self):
        first, second = Driven(LAND, 5), Driven(LAND, 5)
        first.run(LAND)
        first.calm()
        self.assertEqual(shown(second), ([], [], [], (0, (), (), ()), 0))


class Drawn(unittest.TestCase):
    def test_drawn_stories(self):
        seen = collections.Counter()
        for seed in range(100):
            drawer, dice = Drawer(seed), random.Random(seed)
            land = drawer.land()
            world, hand = Driven(land, 5), ByHand(land, 5)
            for worlds in (world, hand):
                worlds.run(land)
            for _ in range(50):
                land = self.event(world, hand, land, drawer, dice, seen)
                self.assertEqual(
                    shown(world), (hand.told, hand.entries, hand.noted, hand.outside.look(), hand.outside.calls())
                )
        for word in (
            "settled", "stuck", "barred", "old look", "fence", "make", "change", "take", "done", "old", "again"
        ):
            self.assertGreater(seen[word], 2, word)

    def event(self, world, hand, land, drawer, dice, seen):
        """Lets the same happen in both worlds; returns the land of the run."""
        roll = dice.random()
        if roll < 0.5:
            back = dice.choice((0, 0, 0, 1, 2, 5, 60))
            result = world.decide(back)
            self.assertEqual(result, hand.decide(back))
            seen[result[0]] += 1
        elif roll < 0.8 and hand.told:
            number = dice.randrange(len(hand.told))
            if dice.random() < 0.7:
                number = len(hand.told) - 1
            seen["again"] += number in [event[1] for event in hand.noted if event[0] == "did"]
            answer = world.do(number)
            self.assertEqual(answer, hand.do(number))
            seen[answer[-1]] += 1
        elif roll < 0.9:
            story = Story(0)
            for others in (world.others(), hand.outside):
                story.outside, story.looks = others, [others.look()]
                story.dice.seed(len(hand.noted))
                story.deed()
        elif roll < 0.96:
            ids = {thing[0]: thing[1] for thing in hand.outside.look()[2] if thing[5] == ()}
            land = drawer.land(land, ids)
            world.run(land)
            hand.run(land)
        else:
            result = world.calm()
            self.assertEqual(result, hand.calm())
            seen[result[0]] += 1
        return land

    def test_worlds_go_by_decide(self):
        for seed in range(20):
            story = Story(seed)
            land = story.owners[0].land
            world = Driven(land, 5)
            world.run(land)
            journal = [("run", 1)]
            while True:
                found, result = decide(land, 5, journal, world.others().look())
                journal.extend(found)
                self.assertEqual(world.decide(0), result)
                self.assertEqual(world.journal(), journal)
                if result[0] not in CALLS:
                    break
                world.do(len(world.under_way()) - 1)


if __name__ == "__main__":
    unittest.main()
