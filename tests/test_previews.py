"""Points 19 and 21: previews and reports, against calm times in an outside of the look."""

import collections
import copy
import unittest

from settledland.calm import calm
from settledland.decider import decide
from settledland.errors import InvalidJournal
from settledland.journal import State
from settledland.lands import read_land
from settledland.outside import outside_of
from settledland.previews import preview, report

from tests.oracle import Oracle, oracle_decide
from tests.scenes import MARK, OWNER, DecidingCase, journal_of, look_of, made
from tests.stories import CALLS, Story
from tests.test_calls_to_make import KINDS, box, key, net

FENCE = ("fence", (5, 1))
N = "thing n: net { zone = 3; size = 4; } "


class PreviewCase(DecidingCase):
    kinds = KINDS

    def preview(self, text, entries, look):
        return preview(self.land(text), OWNER, entries, look)

    def check_preview(self, text, entries, look, calls, result, reasons=(), names=()):
        self.assertEqual(self.preview(text, entries, look), (tuple(calls), result, tuple(reasons), tuple(names)))

    def check_report(self, text, entries, look, *lines):
        self.assertEqual(report(self.land(text), OWNER, entries, look), "".join(line + "\n" for line in lines))


class Previews(PreviewCase):
    def test_settled_at_once(self):
        self.check_preview(N, journal_of(n=1), look_of(net(1)), [], ("settled",))
        self.check_preview(N, journal_of(n=1), look_of(net(1), fence=0), [FENCE], ("settled",))
        self.check_preview("", [("run", 1)], (0, (), (), ()), [FENCE], ("settled",))

    def test_old_look_and_overtaken(self):
        self.check_preview(N, journal_of(n=1), look_of(net(1), moment=39), [], ("old look",))
        self.check_preview(N, journal_of(n=1), look_of(net(1), fence=2), [], ("overtaken",))

    def test_made_things_have_the_ids_of_an_outside_of_the_look(self):
        text = N + "thing b: box { at = n; port = told n; }"
        calls = [
            ("make", MARK, (OWNER, 0), "net", (("code", None), ("size", 4), ("zone", 3))),
            ("make", MARK, (OWNER, 1), "box", (("at", 51), ("hold", None), ("port", 1357), ("up", None))),
        ]
        self.check_preview(text, [("run", 1)], look_of(), calls, ("settled",), (), ("n", "b"))

    def test_begun_names(self):
        entries = [("run", 1), ("begin", "x", 0), ("drop", "x"), ("begin", "n", 1)]
        make = ("make", MARK, (OWNER, 1), "net", (("code", None), ("size", 4), ("zone", 3)))
        self.check_preview(N, entries, look_of(), [make], ("settled",), (), ("n",))
        self.check_preview(N, entries, look_of(made(3, "net", 1, code=None, size=4, zone=3)), [], ("settled",))

    def test_reasons_of_all_lets(self):
        text = "thing n: net { zone = 5; size = 4; } thing b: key { tag = told n; } adopt 7 as n; adopt 8 as b;"
        look = look_of(net(1), key(2, None, 1007), net(7, None, 4, 6), key(8, None, 9), net(9))
        told = self.preview(text, journal_of(n=1, b=2, z=9), look)
        reasons = (
            ("b", ("through", "tag", "n")),
            ("n", ("fixed", "zone")),
            ("z", ("removed",)),
            ("b", ("through", "tag", "n")),
            ("n", ("fixed", "zone")),
        )
        self.assertEqual(told[1:], (("settled",), reasons, ("n", "b")))
        self.assertEqual([call[0] for call in told[0]], ["make", "make"] + 5 * ["take"])

    def test_barred(self):
        text = "thing n: net { zone = 5; size = 4; } "
        entries, look = journal_of(n=1), look_of(net(1), fence=0)
        self.check_preview(text + "keep n;", entries, look, [FENCE], ("barred", "keep", "n"))
        self.check_preview(text + "most 0;", entries, look, [FENCE], ("barred", "most", 1))

    def test_stuck(self):
        text = "thing a: key { code = 1; } thing m: net { zone = 1; size = 1; }"
        make = ("make", MARK, (OWNER, 0), "net", (("code", None), ("size", 1), ("zone", 1)))
        paper = (("make", "a", ("borne", "code", 4)),)
        reasons = [("x", ("removed",))]
        take = ("take", MARK, 5, 1)
        look = look_of(key(4, 1), key(5))
        self.check_preview(text, journal_of(x=5), look, [make, take], ("stuck", paper), reasons, ["m"])

    def test_errors_of_decide(self):
        for function in (preview, report):
            for entries in ([], [("begin", "n", 0)], [("run", 1), ("gone", 3)], [("run", 1), ("run", "2")]):
                with self.assertRaises(InvalidJournal):
                    function(self.land(N), OWNER, entries, look_of())
                with self.assertRaises(InvalidJournal):
                    function(self.land(N), OWNER, entries, look_of(fence=9, moment=0))


class Reports(PreviewCase):
    def test_lines_of_all_calls(self):
        text = N + "thing m: net { zone = 4; size = 6; code = 8; } thing b: box { at = m; port = told n; }"
        look = look_of(net(1, 7), box(2, at=1, port=5), box(3, port=6, up=4), box(4, port=9, up=3), fence=0)
        self.check_report(
            text,
            journal_of(n=1, b=2, leftovers=(3, 4)),
            look,
            "fence 1",
            "change b port 1007",
            "change n code none",
            "make m net",
            "change b at @51",
            "change 3 up none",
            "take 4",
            "take 3",
            "settled",
        )

    def test_settled(self):
        self.check_report("", [("run", 7)], (0, (), (), ()), "fence 7", "settled")
        self.check_report(N, journal_of(n=1), look_of(net(1)), "settled")

    def test_zero_is_no_none(self):
        text = "thing n: net { zone = 3; size = 0; code = 0; }"
        lines = ("change n code 0", "change n size 0", "settled")
        self.check_report(text, journal_of(n=1), look_of(net(1)), *lines)

    def test_change_to_a_thing(self):
        text = N + "thing b: box { at = n; up = c; port = 2; } thing c: box { port = 3; }"
        things = (net(1), box(2, port=2), box(3, port=3))
        self.check_report(
            text, journal_of(n=1, b=2, c=3), look_of(*things), "change b at @1", "change b up @3", "settled"
        )

    def test_clearing_of_a_bound_name(self):
        text = "thing a: key { code = 1; } thing b: key { code = 2; }"
        lines = ("change a code none", "change b code 2", "change a code 1", "settled")
        self.check_report(text, journal_of(a=2, b=1), look_of(key(1, 1), key(2, 2)), *lines)

    def test_barred(self):
        text = "thing n: net { zone = 5; size = 4; } "
        self.check_report(text + "keep n;", journal_of(n=1), look_of(net(1)), "barred keep")
        self.check_report(text + "most 0;", journal_of(n=1), look_of(net(1)), "barred most")

    def test_stuck(self):
        text = "thing a: key { code = 1; } thing b: key { tag = 1; } "
        self.check_report(text, [("run", 1)], look_of(key(4, 1)), "make b key", "stuck 1")
        self.check_report(text, [("run", 1)], look_of(key(4, 1, 1)), "stuck 2")

    def test_overtaken_and_old_look(self):
        self.check_report(N, journal_of(n=1), look_of(net(1), fence=2), "overtaken")
        self.check_report(N, journal_of(n=1), look_of(net(1), moment=39), "old look")

    def test_names_and_kinds_as_they_are_written(self):
        land = read_land("kind K_1.x { f: ref K_1.x empty; } thing A_1 * 2: K_1.x { }")
        told = report(land, OWNER, [("run", 1)], (1, ((5, 1),), (), ()))
        self.assertEqual(told, "make A_1.0 K_1.x\nmake A_1.1 K_1.x\nsettled\n")


def whom_of(state, number, call):
    """Returns the name, or the id of the leftover, for which a call is."""
    if call[0] == "make":
        return [name for name, begun in state.begun.items() if (number, begun[0]) == call[2]][0]
    return {at: name for name, at in state.bound.items()}.get(call[2], call[2]) if len(call) > 2 else None


def written(land, whom, call):
    """Returns the line of a call, written apart from the program."""
    if call[0] == "fence":
        return f"fence {call[1][1]}\n"
    if call[0] == "make":
        return f"make {whom} {call[3]}\n"
    if call[0] == "take":
        return f"take {call[2]}\n"
    targets = {field: form[0] for fields in land.kinds.values() for field, form in fields.items()}
    value = "none" if call[5] is None else f"@{call[5]}" if targets[call[4]] else str(call[5])
    return f"change {whom} {call[4]} {value}\n"


class Stories(unittest.TestCase):
    def by_hand(self, owner, look):
        """Returns the preview and the report by what decide and an outside of the look tell."""
        land, number, journal = owner.land, owner.number, list(owner.journal)
        outside = outside_of(land.kinds, look)
        calls, names, lines, reasons = [], [], [], []
        while True:
            oracle = Oracle(land, number, journal, outside.look())
            found, result = oracle.decide()
            journal.extend(found)
            reasons.extend(oracle.reasons)
            if result[0] not in CALLS:
                break
            state = State(journal)
            whom = whom_of(state, number, result)
            names.extend([whom] if result[0] == "make" else [])
            lines.append(written(land, whom, result))
            calls.append(result)
            self.assertEqual(outside.do(result), ("done",))
        if result[0] == "stuck":
            lines.append(f"stuck {len(result[1])}\n")
        else:
            lines.append(" ".join(result[:2]) + "\n")
        return (tuple(calls), result, tuple(reasons), tuple(names)), "".join(lines)

    def test_drawn_stories(self):
        seen = collections.Counter()
        for seed in range(120):
            story = Story(seed, (5, 6)[: 1 + seed % 2])
            for _ in range(45):
                story.event()
            for owner in story.owners:
                for look in {story.look(), story.dice.choice(story.looks)}:
                    before = (copy.deepcopy(owner.journal), story.outside.look())
                    told = preview(owner.land, owner.number, owner.journal, look)
                    text = report(owner.land, owner.number, owner.journal, look)
                    self.assertEqual((owner.journal, story.outside.look()), before)
                    self.assertEqual((told, text), self.by_hand(owner, look))
                    self.check_calm_times(owner, look, told)
                    seen[told[1][0]] += 1
                    seen.update(line.split()[0] for line in text.splitlines())
        for word in ("settled", "stuck", "barred", "old", "fence", "make", "change", "take"):
            self.assertGreater(seen[word], 2, word)

    def check_calm_times(self, owner, look, told):
        outside = outside_of(owner.land.kinds, look)
        entries, calls, result = calm(owner.land, owner.number, owner.journal, outside)
        self.assertEqual((tuple(calls), result), told[:2])
        new = entries[len(owner.journal) :]
        self.assertEqual([entry[1] for entry in new if entry[0] == "let"], [name for name, _ in told[2]])
        self.assertEqual(len([call for call in calls if call[0] == "make"]), len(told[3]))

    def test_overtaken_stories(self):
        for seed in range(20):
            story = Story(seed)
            for _ in range(30):
                story.event()
            owner = story.owners[0]
            run = State(owner.journal).run
            story.outside.do(("fence", (owner.number, run + 1)))
            told = preview(owner.land, owner.number, owner.journal, story.outside.look())
            self.assertEqual(told, ((), ("overtaken",), (), ()))

    def test_first_call_is_that_of_decide(self):
        for seed in range(40):
            story = Story(seed)
            for _ in range(40):
                story.event()
            owner = story.owners[0]
            calls, result, _, _ = preview(owner.land, owner.number, owner.journal, story.look())
            told = decide(owner.land, owner.number, owner.journal, story.look())
            self.assertEqual(told[1], (*calls, result)[0])
            self.assertEqual(told, oracle_decide(owner.land, owner.number, owner.journal, story.look()))


if __name__ == "__main__":
    unittest.main()
