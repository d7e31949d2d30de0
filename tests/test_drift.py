"""Points 23 and 24: drifts, and the causes of lets."""

import collections
import unittest

from settledland.errors import InvalidJournal
from settledland.journal import State
from settledland.looking import cause, drift
from settledland.newness import lets

from tests.oracle import UNKNOWN, Oracle, need_of
from tests.scenes import OWNER, DecidingCase, journal_of, look_of, made, thing
from tests.stories import Story
from tests.test_calls_to_make import KINDS, box, key, net

N = "thing n: net { zone = 3; size = 4; } "


class DriftCase(DecidingCase):
    kinds = KINDS

    def check_drift(self, text, entries, look, *rows):
        self.assertEqual(drift(self.land(text), OWNER, entries, look), list(rows))


class Drift(DriftCase):
    def test_nothing(self):
        self.check_drift(N, journal_of(n=1), look_of(net(1)))
        self.check_drift("", [], (0, (), (), ()))

    def test_missing_and_begun(self):
        text = N + "thing c: key { } thing a: key { } thing b: key { }"
        entries = [("run", 1), ("begin", "n", 0), ("begin", "b", 1), ("begin", "x", 2)]
        rows = (("missing", "a"), ("missing", "c"), ("begun", "b"), ("begun", "n"), ("begun", "x"))
        self.check_drift(text, entries, look_of(), *rows)

    def test_stray(self):
        self.check_drift(N, journal_of(n=1, z=2, a=3), look_of(net(1), net(2), key(3)), ("stray", "a"), ("stray", "z"))

    def test_kind(self):
        text = N + "thing b: key { } "
        self.check_drift(text, journal_of(n=1, b=2), look_of(key(1), net(2)), ("kind", "b"), ("kind", "n"))

    def test_values(self):
        text = N + "thing b: box { at = n; port = told n; up = c; } thing c: box { port = 0; }"
        look = look_of(net(1, 7, 9, 5), net(4), box(2, at=4, port=3, up=2, hold=2), box(3))
        self.check_drift(
            text,
            journal_of(n=1, b=2, c=3),
            look,
            ("value", "b", "at", 4, 1),
            ("value", "b", "hold", 2, None),
            ("value", "b", "port", 3, 1007),
            ("value", "b", "up", 2, 3),
            ("value", "n", "code", 7, None),
            ("value", "n", "size", 9, 4),
            ("value", "n", "zone", 5, 3),
        )

    def test_waits(self):
        text = N + "thing b: box { at = n; port = told n; hold = c; up = c; } thing c: box { port = 5; }"
        self.check_drift(
            text,
            journal_of(b=2),
            look_of(box(2)),
            ("missing", "c"),
            ("missing", "n"),
            ("waits", "b", "at", "n"),
            ("waits", "b", "hold", "c"),
            ("waits", "b", "port", "n"),
            ("waits", "b", "up", "c"),
        )

    def test_values_and_waits_together(self):
        text = "thing a: box { port = 5; up = b; } thing b: box { port = told c; at = none; } thing c: key { }"
        rows = (
            ("missing", "c"),
            ("value", "a", "port", 0, 5),
            ("value", "a", "up", None, 2),
            ("value", "b", "at", 4, None),
            ("waits", "b", "port", "c"),
        )
        self.check_drift(text, journal_of(a=1, b=2), look_of(box(1), box(2, at=4, port=1), net(4)), *rows)

    def test_left(self):
        self.check_drift("", journal_of(leftovers=(4, 2, 3)), look_of(net(2), net(4)), ("left", 2), ("left", 4))

    def test_names_that_were_let_are_not_let(self):
        # A drift tells what is otherwise; it lets nothing, and asks no bars.
        text = "thing n: net { zone = 5; size = 4; } keep n; most 0;"
        self.check_drift(text, journal_of(n=1), look_of(net(1)), ("value", "n", "zone", 3, 5))

    def test_wants_that_hang_on_a_thing_of_another_kind(self):
        text = N + "thing b: box { at = n; port = told n; }"
        rows = (("kind", "n"), ("value", "b", "at", None, 1), ("value", "b", "port", 0, 1007))
        self.check_drift(text, journal_of(n=1, b=2), look_of(key(1), box(2)), *rows)

    def test_all_rows_in_order(self):
        text = N + "thing b: key { } thing c: key { code = 1; } thing d: key { } thing e: key { }"
        entries = [("run", 1), ("begin", "d", 0), *journal_of(n=1, b=2, c=3, z=4, leftovers=(5,))[:-1]]
        rows = (
            ("missing", "e"),
            ("begun", "d"),
            ("stray", "z"),
            ("kind", "b"),
            ("value", "c", "code", None, 1),
            ("left", 5),
        )
        look = look_of(net(1), net(2), key(3), key(4), key(5))
        self.check_drift(text, entries, look, *rows)

    def test_facts_of_steps_3_to_6(self):
        text = N + "thing a: key { } thing b: key { } thing c: key { } thing d: key { } move m to b; adopt 9 as c;"
        entries = [("run", 1), ("begin", "n", 0), ("begin", "d", 1), ("adopt", "m", 4, 2), ("adopt", "a", 5, 2)]
        entries += [("adopt", "l", 6, 2), ("let", "l"), ("run", 2)]
        look = look_of(made(3, "net", 0, code=None, size=8, zone=3), key(4), key(9, 7), fence=2)
        rows = (("missing", "a"), ("missing", "d"), ("value", "c", "code", 7, None), ("value", "n", "size", 8, 4))
        self.check_drift(text, entries, look, *rows)

    def test_begun_in_this_run_and_lost(self):
        entries = [("run", 1), ("begin", "n", 0)]
        self.check_drift(N, entries, look_of(), ("begun", "n"))
        self.check_drift(N, entries, look_of(spent=((5, 0),)), ("missing", "n"))
        self.check_drift(N, entries + [("run", 2)], look_of(), ("missing", "n"))

    def test_fences_do_not_matter(self):
        for fence in (0, 1, 2):
            self.check_drift(N, journal_of(n=1), look_of(net(1, size=6), fence=fence), ("value", "n", "size", 6, 4))

    def test_journals_without_a_run(self):
        self.check_drift(N, [], look_of(net(1)), ("missing", "n"))
        self.check_drift(N, [("begin", "n", 0)], look_of(), ("begun", "n"))

    def test_errors(self):
        for entries in ([("let", "n")], [("run", 1), ("run", 1)], [("run", 1), 3]):
            with self.assertRaises(InvalidJournal):
                drift(self.land(N), OWNER, entries, look_of())
        for moment in (0, 39):
            with self.assertRaises(InvalidJournal):
                drift(self.land(N), OWNER, journal_of(n=1), look_of(net(1), moment=moment))
        self.check_drift(N, journal_of(n=1), look_of(net(1), moment=40))

    def test_drawn_stories(self):
        seen = collections.Counter()
        for seed in range(120):
            story = Story(seed)
            for _ in range(45):
                story.event()
            owner = story.owners[0]
            for look in (story.look(), story.looks[0]):
                if look[0] < State(owner.journal).moment:
                    with self.assertRaises(InvalidJournal):
                        drift(owner.land, owner.number, owner.journal, look)
                    seen["old"] += 1
                    continue
                rows = drift(owner.land, owner.number, owner.journal, look)
                self.assertEqual(rows, self.by_hand(owner, look))
                seen.update(row[0] for row in rows)
        for word in ("missing", "begun", "stray", "kind", "value", "waits", "left", "old"):
            self.assertGreater(seen[word], 2, word)

    def by_hand(self, owner, look):
        oracle = Oracle(owner.land, owner.number, owner.journal, look)
        oracle.facts()
        bound, begun, land = oracle.state.bound, oracle.state.begun, owner.land
        rows = [("missing", name) for name in oracle.unbound() if name not in begun]
        rows += [("begun", name) for name in sorted(begun)]
        rows += [("stray", name) for name in sorted(set(bound) - set(land.things))]
        other = [
            name for name in bound if name in land.things and oracle.thing_of(name)["kind"] != land.things[name][0]
        ]
        rows += [("kind", name) for name in sorted(other)]
        for name in sorted(set(bound) & set(land.things) - set(other)):
            for field, value in sorted(oracle.thing_of(name)["values"].items()):
                want = oracle.want(name, field, bound)
                if want is UNKNOWN:
                    rows.append(("waits", name, field, need_of(land.things[name][1][field])))
                elif want != value:
                    rows.append(("value", name, field, value, want))
        return rows + [("left", number) for number in oracle.state.leftovers]


class Cause(DriftCase):
    kinds = "kind net { zone: number fixed; } kind box { at: ref net fixed; hold: ref box fixed empty; } "
    TEXT = """
        thing n: net { zone = 4; } thing m: net { zone = 3; } thing c: box { at = n; } thing b: box {
            at = m; hold = c;
        }
        thing a: box { at = m; hold = b; } thing d: box { at = m; }
    """
    LOOK = look_of(
        thing(1, "net", zone=3), thing(2, "net", zone=3), thing(3, "box", at=1, hold=None), thing(
            4, "box", at=2, hold=3
        ),
        thing(5, "box", at=2, hold=4), thing(6, "box", at=1, hold=None),
    )

    def check_cause(self, text, name, *chain, **bound):
        self.assertEqual(cause(self.land(text), State(journal_of(**bound)), self.LOOK, name), chain)

    def test_chains_that_end_by_another_reason(self):
        bound = {"n": 1, "m": 2, "c": 3, "b": 4, "a": 5, "d": 6, "x": 7}
        look = (*self.LOOK[:2], (*self.LOOK[2], thing(7, "net", zone=1)), ())
        for name, chain in (("a", "abcn"), ("b", "bcn"), ("c", "cn"), ("n", "n"), ("d", "d"), ("x", "x")):
            found = cause(self.land(self.TEXT), State(journal_of(**bound)), look, name)
            self.assertEqual(found, tuple(chain))

    def test_chains_that_end_by_a_name_that_is_no_let(self):
        self.check_cause(self.TEXT, "a", "a", "b", "c", m=2, b=4, a=5)
        self.check_cause(self.TEXT, "a", "a", "b", m=2, a=5)
        self.check_cause(self.TEXT, "b", "b", "c", m=2, b=4)
        self.check_cause(self.TEXT, "d", "d", "m", d=6)

    def test_chain_ends_by_a_kind(self):
        self.check_cause(self.TEXT, "a", "a", "b", m=2, b=1, a=5)
        text = "thing c: net { zone = 3; } thing a: box { at = c; }"
        self.check_cause(text, "a", "a", "c", c=6, a=5)

    def test_drawn_stories(self):
        lengths = collections.Counter()
        for seed in range(100):
            story = Story(seed, bars=0)
            owner = story.owners[0]
            for _ in range(50):
                story.event()
                oracle = Oracle(owner.land, owner.number, owner.journal, story.look())
                oracle.facts()
                reasons = lets(owner.land, oracle.state, story.look())
                for name in reasons:
                    chain = cause(owner.land, oracle.state, story.look(), name)
                    self.assertEqual(chain[0], name)
                    for first, second in zip(chain, chain[1:]):
                        self.assertEqual((reasons[first][0], reasons[first][2]), ("through", second))
                    self.assertNotEqual(reasons.get(chain[-1], ("",))[0], "through")
                    lengths[len(chain), chain[-1] in reasons] += 1
        for many in ((1, True), (2, True), (2, False)):
            self.assertGreater(lengths[many], 0, many)
        self.assertGreater(max(lengths)[0], 2)


if __name__ == "__main__":
    unittest.main()
