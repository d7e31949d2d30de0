"""Point 22: rounds of calls, and calm times in rounds."""

import collections
import copy
import unittest

from settledland.calm import calm
from settledland.errors import InvalidJournal
from settledland.journal import State
from settledland.outside import outside_of
from settledland.rounds import calm_rounds, decide_round

from tests.oracle import Oracle, oracle_round
from tests.scenes import MARK, OWNER, DecidingCase, journal_of, look_of, made
from tests.stories import CALLS, Story
from tests.test_calls_to_make import KINDS, box, change, key, make, net, take
from tests.test_stories import check_told

N = "thing n: net { zone = 3; size = 4; } "


class RoundCase(DecidingCase):
    kinds = KINDS

    def check_round(self, text, entries, look, *results, found=()):
        told = decide_round(self.land(text), OWNER, entries, look)
        self.assertEqual(told, (tuple(found), results))


class Rounds(RoundCase):
    def test_fence_is_a_round_by_itself(self):
        self.check_round(N, journal_of(m=2), look_of(net(2), fence=0), ("fence", MARK))

    def test_results_that_are_no_calls(self):
        self.check_round(N, journal_of(n=1), look_of(net(1)), ("settled",))
        self.check_round(N, journal_of(n=1), look_of(net(1), fence=2), ("overtaken",))
        self.check_round(N, journal_of(n=1), look_of(net(1), moment=39), ("old look",))
        text = "thing n: net { zone = 5; size = 4; } "
        self.check_round(text + "keep n;", journal_of(n=1), look_of(net(1)), ("barred", "keep", "n"))
        self.check_round(text + "most 0;", journal_of(n=1), look_of(net(1)), ("barred", "most", 1))
        stuck = ("stuck", (("make", "a", ("borne", "code", 4)),))
        self.check_round("thing a: key { code = 1; }", journal_of(), look_of(key(4, 1)), stuck)

    def test_entries_of_steps_ahead_are_told(self):
        text = N + "thing m: net { zone = 3; size = 4; } keep n; move o to m;"
        entries = journal_of(n=1, o=2)
        self.check_round(
            text, entries, look_of(net(2), net(1, zone=9)), ("barred", "keep", "n"), found=[("move", "o", "m")]
        )
        self.check_round("", journal_of(n=1), look_of(net(1)), take(1), found=[("let", "n")])

    def test_first_change_of_each_thing(self):
        text = "thing a: net { code = 1; size = 2; zone = 3; } thing b: net { code = 3; size = 4; zone = 3; }"
        things = [net(1, 8, 9), net(2, 7, 9, version=5)]
        self.check_round(text, journal_of(a=2, b=1), look_of(*things), change(2, "code", 1, 5), change(1, "code", 3))
        things[1] = net(2, 1, 9, version=6)
        self.check_round(text, journal_of(a=2, b=1), look_of(*things), change(2, "size", 2, 6), change(1, "code", 3))

    def test_all_makes_with_their_begins(self):
        text = N + "thing c: key { code = 1; } thing a: key { code = 2; } thing b: key { code = 3; tag = told c; }"
        entries = [("run", 1), ("begin", "x", 0), ("drop", "x"), ("begin", "c", 1)]
        self.check_round(
            text,
            entries,
            look_of(),
            make(2, "key", code=2, tag=None),
            make(1, "key", code=1, tag=None),
            make(3, "net", code=None, size=4, zone=3),
            found=[("begin", "a", 2), ("begin", "n", 3)],
        )

    def test_all_takes(self):
        things = (net(1), box(2, at=1), key(3), key(4, version=2))
        self.check_round("", journal_of(leftovers=(4, 3, 2, 1)), look_of(*things), take(2), take(3), take(4, 2))

    def test_changes_makes_and_takes_in_order(self):
        text = "thing b: net { size = 5; zone = 3; } thing a: key { code = 1; }"
        self.check_round(
            text,
            journal_of(b=2, leftovers=(1,)),
            look_of(net(1), net(2)),
            change(2, "size", 5),
            make(0, "key", code=1, tag=None),
            take(1),
            found=[("begin", "a", 0)],
        )

    def test_one_clearing_alone(self):
        things = (box(1, up=2), box(2, port=1, up=3), box(3, port=2, up=1))
        self.check_round("", journal_of(leftovers=(1, 2, 3)), look_of(*things), change(1, "up", None))
        # Not beside any other call.
        things += (key(4),)
        self.check_round("", journal_of(leftovers=(1, 2, 3, 4)), look_of(*things), take(4))

    def test_numbers_that_two_things_want(self):
        # Each of the two is possible; the first that is done bears the number.
        text = N + "thing a: key { code = told n; } thing b: key { code = told n; }"
        makes = (make(0, "key", code=1007, tag=None), make(1, "key", code=1007, tag=None))
        found = [("begin", "a", 0), ("begin", "b", 1)]
        self.check_round(text, journal_of(n=1), look_of(net(1)), *makes, found=found)
        outside = outside_of(self.land("").kinds, look_of(net(1)))
        entries, rounds, result = calm_rounds(self.land(text), OWNER, journal_of(n=1), outside)
        self.assertEqual((rounds, result), ([makes], ("stuck", (("make", "b", ("borne", "code", 51)),))))
        self.assertEqual(State(entries).begun, {"b": (1, 1)})

    def test_begun_things_are_made_once(self):
        entries = [("run", 1), ("begin", "n", 0)]
        look = look_of(made(3, "net", 0, code=None, size=4, zone=3))
        self.check_round(N, entries, look, ("settled",), found=[("bind", "n", 3, 50)])

    def test_errors(self):
        for entries in ([], [("begin", "n", 0)], [("run", 1), ("gone", 3)]):
            outside = outside_of(self.land("").kinds, look_of(moment=0))
            with self.assertRaises(InvalidJournal):
                decide_round(self.land(N), OWNER, entries, outside.look())
            with self.assertRaises(InvalidJournal):
                calm_rounds(self.land(N), OWNER, entries, outside)
            self.assertEqual((outside.look(), outside.calls()), (look_of(moment=0), 0))

    def test_calm_rounds(self):
        text = N + "thing a * 3: box { at = n; port = index; } thing b: box { port = told n; up = a.1; }"
        outside = outside_of(self.land("").kinds, (0, (), (), ()))
        entries, rounds, result = calm_rounds(self.land(text), OWNER, [("run", 1)], outside)
        self.assertEqual([len(calls) for calls in rounds], [1, 1, 3, 1])
        self.assertEqual(result, ("settled",))
        self.assertEqual(entries[:4], [("run", 1), ("begin", "n", 0), ("bind", "n", 1, 2), ("begin", "a.0", 1)])
        check_told(self, self.land(text), OWNER, entries, outside.look())


def world_of(owner, look):
    return outside_of(owner.land.kinds, look)


class Stories(unittest.TestCase):
    def stories(self, seeds, events=45):
        for seed in seeds:
            story = Story(seed, (5, 6)[: 1 + seed % 2], bars=0.05)
            for _ in range(events):
                story.event()
            for owner in story.owners:
                yield story, owner

    def test_rounds_against_the_oracle(self):
        sizes = collections.Counter()
        for story, owner in self.stories(range(100)):
            for look in {story.look(), *story.looks[-4:]}:
                scene = (owner.land, owner.number, owner.journal, look)
                found, results = told = decide_round(*scene)
                self.assertEqual(told, oracle_round(*scene))
                sizes[len(results)] += 1
                self.check_parts(owner, look, found, results)
        self.assertGreater(sizes[3], 3)

    def check_parts(self, owner, look, found, results):
        words = [result[0] for result in results]
        if words[0] not in CALLS or words[0] == "fence":
            self.assertEqual(len(results), 1)
            return
        self.assertEqual(words, sorted(words))  # change, make, take
        changed = [call[2] for call in results if call[0] == "change"]
        self.assertEqual(len(changed), len(set(changed)))
        tokens = [call[2] for call in results if call[0] == "make"]
        state = State(owner.journal + list(found))
        begun = {(owner.number, k): name for name, (k, _) in state.begun.items()}
        self.assertEqual([begun[token] for token in tokens], sorted(begun[token] for token in tokens))
        takes = [call[2] for call in results if call[0] == "take"]
        self.assertEqual(takes, sorted(takes))

    def test_rounds_in_drawn_orders_end_as_single_calls_do(self):
        seen = collections.Counter()
        for story, owner in self.stories(range(200, 300)):
            look = story.look()
            single = calm(owner.land, owner.number, owner.journal, world_of(owner, look))
            for _ in range(2):
                outside, journal, many, refused = world_of(owner, look), list(owner.journal), 0, 0
                while True:
                    found, results = decide_round(owner.land, owner.number, journal, outside.look())
                    journal.extend(found)
                    if results[0][0] not in CALLS:
                        break
                    for call in story.dice.sample(results, len(results)):
                        answer = outside.do(call)
                        many += call[0] == "make" and answer == ("done",)
                        if answer != ("done",):
                            # Only a number that two things want is borne by the one that came first.
                            self.assertEqual(answer, ("refused", "taken"))
                            refused += 1
                self.assertEqual(results[0][0], single[2][0])
                if results[0] == ("settled",):
                    self.assertEqual(many, len([call for call in single[1] if call[0] == "make"]))
                    self.assertEqual(refused, 0)
                    check_told(self, owner.land, owner.number, journal, outside.look())
                seen[results[0][0]] += 1
                seen["refused"] += refused
        for word in ("settled", "stuck", "barred"):
            self.assertGreater(seen[word], 3, word)

    def test_calm_rounds_against_decide_round(self):
        for story, owner in self.stories(range(400, 470)):
            look = story.look()
            outside, journal, rounds = world_of(owner, look), list(owner.journal), []
            while True:
                found, results = decide_round(owner.land, owner.number, journal, outside.look())
                journal.extend(found)
                if results[0][0] not in CALLS:
                    break
                rounds.append(results)
                for call in results:
                    outside.do(call)
            other, before = world_of(owner, look), copy.deepcopy(owner.journal)
            told = calm_rounds(owner.land, owner.number, owner.journal, other)
            self.assertEqual(told, (journal, rounds, results[0]))
            self.assertEqual([type(part) for part in told[:2]], [list, list])
            self.assertEqual((other.look(), other.calls()), (outside.look(), outside.calls()))
            self.assertEqual(owner.journal, before)
            if told[2] == ("settled",):
                oracle = Oracle(
                    owner.land, owner.number, before, (look[0], ((owner.number, State(before).run),), *look[2:])
                )
                oracle.ahead()
                made_calls = [call for calls in rounds for call in calls if call[0] == "make"]
                self.assertEqual(len(made_calls), len(oracle.unbound()))


if __name__ == "__main__":
    unittest.main()
