"""Points 17 and 18: what the decider keeps behind each event of drawn stories, and what calm
times bring behind them; each decision against a decider that is written apart."""

import collections
import copy
import unittest

from unittest import mock

from settledland.calm import calm
from settledland.decider import decide
from settledland.journal import State

from tests import stories
from tests.oracle import Oracle, oracle_decide
from tests.stories import CALLS, Story


class Watch:
    """Looks at a story behind each of its events."""

    def __init__(self, case, story):
        self.case, self.story = case, story
        self.tokens = {}  # from all ids that ever lived to their tokens
        self.used = set()
        self.seen = {owner.number: 0 for owner in story.owners}
        self.at = 0
        self.begins = {}

    def event(self):
        self.story.event()
        self.look()

    def look(self):
        things = self.story.look()[2]
        for number, _, _, _, _, token in things:
            self.case.assertEqual(self.tokens.setdefault(number, token), token)
        self.check_needs(things)
        for owner in self.story.owners:
            self.check_entries(owner)
            self.check_known(owner, things)
        for before, number, call in self.story.history[self.at :]:
            for owner in self.story.owners:
                if owner.number == number:
                    self.check_call(owner, before, call)
        self.at = len(self.story.history)

    def check_needs(self, things):
        ids = {thing[0]: thing[1] for thing in things}
        for _, kind, values, _, _, _ in things:
            for field, value in values:
                target = self.story.kinds[kind][field][0]
                if target and value is not None:
                    self.case.assertEqual(ids.get(value), target)

    def check_entries(self, owner):
        """A name is bound only to what was made for it, adopted for it or moved to it."""
        State(owner.journal)
        for entry in owner.journal[self.seen[owner.number] :]:
            land = owner.land
            if entry[0] == "begin":
                self.begins[owner.number, entry[1]] = (owner.number, entry[2])
            elif entry[0] == "bind":
                self.case.assertEqual(self.tokens[entry[2]], self.begins[owner.number, entry[1]])
            elif entry[0] == "adopt":
                self.case.assertEqual(self.tokens[entry[2]], ())
                self.case.assertEqual(land.adopts[entry[1]], entry[2])
            elif entry[0] == "move":
                self.case.assertEqual(land.moves[entry[2]], entry[1])
        self.seen[owner.number] = len(owner.journal)

    def check_known(self, owner, things):
        """Everything that the owner made and that lives is known by the journal."""
        state = State(owner.journal)
        ids = list(state.bound.values()) + state.leftovers
        self.case.assertEqual(len(ids), len(set(ids)))
        begun = [k for k, _ in state.begun.values()]
        for number, _, _, _, _, token in things:
            if token and token[0] == owner.number:
                self.case.assertTrue(number in ids or token[1] in begun, (number, token))

    def check_call(self, owner, before, call):
        """A call that changed something is one for a thing of the owner, or makes one."""
        self.case.assertEqual(call[1][0], owner.number)
        if call[0] == "make":
            self.case.assertEqual(call[2][0], owner.number)
            self.case.assertNotIn(call[2], self.used)
            self.used.add(call[2])
        elif call[0] != "fence":
            adopted = [entry[2] for entry in owner.journal if entry[0] == "adopt"]
            token = self.tokens[call[2]]
            self.case.assertTrue(token[:1] == (owner.number,) or call[2] in adopted, call)


def fields_of(kinds, rows):
    return sum(len(kinds[kind]) for kind in rows)


def told_values(land, state, things, name):
    """What the values of a thing of the land must be, all names being bound."""
    values = []
    for field, (word, *rest) in sorted(land.things[name][1].items()):
        if word == "number":
            values.append((field, rest[0]))
        elif word == "none":
            values.append((field, None))
        elif word == "name":
            values.append((field, state.bound[rest[0]]))
        else:
            values.append((field, (things[state.bound[rest[0]]][4] + rest[1]) % 2**32))
    return tuple(values)


def check_told(case, land, number, entries, look):
    """Checks that the land is the told one."""
    state = State(entries)
    things = {thing[0]: thing for thing in look[2]}
    case.assertEqual(sorted(state.bound), sorted(land.things))
    case.assertEqual(len(set(state.bound.values())), len(state.bound))
    for name, id_of_thing in state.bound.items():
        case.assertEqual(things[id_of_thing][1], land.things[name][0])
        case.assertEqual(things[id_of_thing][2], told_values(land, state, things, name))
    case.assertEqual(state.leftovers, [])
    for id_of_thing, thing in things.items():
        if id_of_thing not in state.bound.values():
            case.assertNotEqual(thing[5][:1], (number,))


def check_calm(case, owner, outside):
    """Lets calm times come and checks what point 18 promises; returns the result."""
    land, number, before = owner.land, owner.number, outside.look()
    most_calls = 1 + len(land.things) + len(before[2]) + 2 * (
        fields_of(land.kinds, [thing[1] for thing in before[2]])
        + fields_of(land.kinds, [kind for kind, _ in land.things.values()])
    )
    oracle = Oracle(land, number, owner.journal, (before[0], ((number, State(owner.journal).run),), *before[2:]))
    barred = oracle.ahead()
    journal, count = copy.deepcopy(owner.journal), outside.calls()
    entries, calls, result = calm(land, number, owner.journal, outside)
    case.assertEqual(owner.journal, journal)
    case.assertEqual(entries[: len(journal)], journal)
    case.assertIsInstance(calls, list)
    case.assertLessEqual(len(calls), most_calls)
    case.assertEqual(outside.calls() - count, len(calls))
    case.assertNotIn(result[0], CALLS + ("old look", "overtaken"))
    case.assertEqual(result[0] == "barred", barred is not None)
    owner.journal = entries
    made = [call for call in calls if call[0] == "make"]
    if result == ("settled",):
        check_told(case, land, number, entries, outside.look())
        case.assertEqual(len(made), len(oracle.unbound()))
        case.assertEqual({**State(entries).bound, **oracle.state.bound}, State(entries).bound)
    elif barred:
        case.assertEqual(result, barred)
        case.assertEqual([call[0] for call in calls if call[0] != "fence"], [])
    # Calm times that go on bring nothing more.
    again = calm(land, number, entries, outside)
    case.assertEqual(again, (entries, [], result))
    return result


class Stories(unittest.TestCase):
    def tell(self, seeds, owners=(5,), events=70, bars=0.1):
        """Tells stories; returns what was seen in them."""
        seen = collections.Counter()
        for seed in seeds:
            story = Story(seed, owners, bars)
            watch = Watch(self, story)
            with self.subTest(seed):
                for _ in range(events):
                    watch.event()
                settled = []
                for owner in story.owners:
                    result = check_calm(self, owner, story.outside)
                    watch.look()
                    seen[result[0]] += 1
                    if result == ("settled",):
                        settled.append(owner)
                for owner in settled:
                    check_told(self, owner.land, owner.number, owner.journal, story.look())
                seen.update(entry[0] for owner in story.owners for entry in owner.journal)
        return seen

    def test_stories_of_one_owner(self):
        seen = self.tell(range(110))
        for word in ("settled", "stuck", "barred", "bind", "adopt", "let", "lost", "drop", "move", "gone"):
            self.assertGreater(seen[word], 2, word)

    def test_stories_of_two_owners(self):
        seen = self.tell(range(1000, 1060), (5, 6))
        self.assertGreater(seen["settled"], 10)

    def test_stories_without_bars(self):
        seen = self.tell(range(2000, 2050), bars=0)
        self.assertEqual(seen["barred"], 0)

    def test_stories_without_calm_looks(self):
        # Each look is drawn from all that there were, also the first ones.
        for seed in range(3000, 3030):
            story = Story(seed)
            watch = Watch(self, story)
            owner = story.owners[0]
            for _ in range(60):
                _, result = story.decide(owner, story.dice.choice(story.looks + [story.look()] * 3))
                watch.look()
                for call in story.dice.sample(owner.told, min(2, len(owner.told))):
                    story.do(owner, call)
                    watch.look()
                if story.chance(0.08):
                    story.new_run(owner)
            check_calm(self, owner, story.outside)

    def test_calls_that_are_refused(self):
        why = collections.Counter()
        for seed in range(4000, 4060):
            story = Story(seed)
            for _ in range(70):
                story.event()
                for call in story.owners[0].told[-3:]:
                    before = story.look()
                    answer = story.do(story.owners[0], call)
                    why[answer[-1]] += 1
                    if answer[0] == "refused":
                        self.assertEqual(story.look(), before)
        for word in ("old", "gone", "stale"):
            self.assertGreater(why[word], 0, word)


class AgainstTheOracle(unittest.TestCase):
    def test_decisions(self):
        seen = collections.Counter()

        def checked(land, number, entries, look):
            told = decide(land, number, entries, look)
            self.assertEqual(told, oracle_decide(land, number, entries, look))
            seen[told[1][0]] += 1
            if told[1][0] == "stuck":
                seen.update((line[0], *line[-1][:1]) for line in told[1][1])
            if told[1][0] == "change" and told[1][-1] is None:
                seen["clearing"] += 1
            return told

        with mock.patch.object(stories, "decide", checked):
            for seed in range(5000, 5080):
                story = Story(seed, (5, 6)[: 1 + seed % 2])
                for _ in range(70):
                    story.event()
                for owner in story.owners:
                    for look in story.looks[-5:]:
                        checked(owner.land, owner.number, owner.journal, look)
        words = ("fence", "make", "change", "take", "clearing", "settled", "stuck", "barred", "overtaken", "old look")
        for word in words[:8] + words[9:]:
            self.assertGreater(seen[word], 4, word)
        for line in (("change", "wait"), ("change", "borne"), ("make", "wait"), ("make", "borne"), ("take", "needed")):
            self.assertGreater(seen[line], 4, line)


class Calm(unittest.TestCase):
    def test_each_decision_of_calm_times(self):
        for seed in range(6000, 6040):
            story = Story(seed)
            for _ in range(30):
                story.event()
            owner = story.owners[0]
            by_hand = Story(seed)
            for _ in range(30):
                by_hand.event()
            self.assertEqual(by_hand.look(), story.look())
            journal, calls = list(owner.journal), []
            while True:
                found, result = oracle_decide(owner.land, owner.number, journal, by_hand.outside.look())
                journal.extend(found)
                if result[0] not in CALLS:
                    break
                calls.append(result)
                self.assertEqual(by_hand.outside.do(result), ("done",))
            told = calm(owner.land, owner.number, owner.journal, story.outside)
            self.assertEqual(told, (journal, calls, result))
            self.assertEqual(story.outside.look(), by_hand.outside.look())


if __name__ == "__main__":
    unittest.main()
