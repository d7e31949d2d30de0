"""Points 16 and 20: judges of previews and of papers."""

import collections
import copy
import unittest

from settledland.decider import decide
from settledland.errors import InvalidJournal
from settledland.judges import judge_preview, judge_stuck
from settledland.lands import read_land
from settledland.previews import preview

from tests.scenes import MARK, OWNER, DecidingCase, journal_of, look_of, made, thing
from tests.stories import Story
from tests.test_calls_to_make import KINDS, box, key, net

FENCE = ("fence", (5, 1))
N = "thing n: net { zone = 3; size = 4; } "


def make_net(k, mark=MARK, token=None, **values):
    values = {"code": None, "size": 4, "zone": 3, **values}
    return ("make", mark, token or (OWNER, k), "net", tuple(sorted(values.items())))


class JudgeCase(DecidingCase):
    kinds = KINDS

    def judge(self, text, entries, look, calls, reasons=(), names=(), result=("settled",)):
        given = (tuple(calls), result, tuple(reasons), tuple(names))
        return judge_preview(self.land(text), OWNER, entries, look, given)

    def right(self, *arguments, **more):
        self.assertIs(self.judge(*arguments, **more), True)

    def wrong(self, *arguments, **more):
        self.assertIs(self.judge(*arguments, **more), False)

    def stuck(self, expected, text, entries, look, *paper):
        self.assertIs(judge_stuck(self.land(text), OWNER, entries, look, paper), expected, paper)


class Previews(JudgeCase):
    def test_land_that_is_settled(self):
        self.right(N, journal_of(n=1), look_of(net(1)), [])
        self.right("", [("run", 1)], look_of(), [])
        self.wrong(N, journal_of(n=1), look_of(net(1)), [make_net(0)], names=["n"])
        self.wrong(N, journal_of(n=1), look_of(net(1)), [], names=["n"])
        self.wrong(N, journal_of(n=1), look_of(net(1)), [], [("n", ("removed",))])

    def test_other_results(self):
        for result in (
            ("stuck", ()), ("barred", "keep", "n"), ("overtaken",), ("old look",), (), ("settled", 1), "settled"
        ):
            self.wrong(N, journal_of(n=1), look_of(net(1)), [], result=result)

    def test_fence(self):
        entries = journal_of(n=1)
        self.right(N, entries, look_of(net(1), fence=0), [FENCE])
        self.wrong(N, entries, look_of(net(1), fence=0), [])
        self.wrong(N, entries, look_of(net(1), fence=0), [FENCE, FENCE])
        self.wrong(N, entries, look_of(net(1)), [FENCE])
        self.wrong(N, entries, look_of(net(1), fence=0), [("fence", (5, 2))])
        self.wrong(N, entries, look_of(net(1), fence=0), [("fence", (6, 1))])
        self.wrong(N, entries, look_of(net(1), fence=2), [])
        self.wrong(N, entries, look_of(net(1), fence=0), [FENCE, ("fence", (6, 1))])

    def test_fence_can_come_late(self):
        entries, look = journal_of(n=1), look_of(net(1, size=9), fence=0)
        change = ("change", MARK, 1, 1, "size", 4)
        self.right(N, entries, look, [FENCE, change])
        self.right(N, entries, look, [change, FENCE])
        self.wrong(N, entries, look, [change])

    def test_old_look(self):
        self.wrong(N, journal_of(n=1), look_of(net(1), moment=39), [])
        look = look_of(made(1, "net", 0, code=None, size=4, zone=3))
        self.right(N, [("run", 1), ("begin", "n", 0), ("adopt", "x", 2, 50)], look, [])
        self.wrong(N, [("run", 1), ("begin", "n", 0), ("adopt", "x", 2, 60)], look, [])

    def test_calls_that_are_refused_or_change_nothing(self):
        entries, look = journal_of(n=1), look_of(net(1, size=9), box(3))
        change = ("change", MARK, 1, 1, "size", 4)
        self.right(N, entries, look, [change])
        self.wrong(N, entries, look, [])
        self.wrong(N, entries, look, [change, change])
        self.wrong(N, entries, look, [("change", MARK, 1, 2, "size", 4)])
        self.wrong(N, entries, look, [("change", MARK, 1, 1, "size", 5)])
        self.wrong(N, entries, look, [("change", MARK, 2, 1, "size", 4)])
        self.wrong(N, entries, look, [change, ("take", MARK, 1, 1)])
        self.wrong(N, entries, look, [change, ("take", MARK, 1, 2)])
        self.wrong(N, entries, look, [("change", (5, 0), 1, 1, "size", 4)])
        self.wrong(N, entries, look, [("change", (5, 2), 1, 1, "size", 4)])
        self.wrong(N, entries, look, [("change", (6, 1), 1, 1, "size", 4)])

    def test_ways_that_are_longer_than_need_be(self):
        # Each call changes something, and the land is the told one at last.
        entries, look = journal_of(n=1), look_of(net(1, size=9), box(3))
        calls = [("change", MARK, 1, 1, "size", 7), ("change", MARK, 1, 2, "size", 4)]
        self.right(N, entries, look, calls)
        self.wrong(N, entries, look, calls[::-1])
        self.right(N, entries, look, calls + [("change", MARK, 3, 1, "port", 6)])

    def test_tokens(self):
        entries = [("run", 1), ("begin", "x", 0), ("drop", "x"), ("begin", "m", 1)]
        text = N + "thing m: net { zone = 3; size = 4; } thing a: net { zone = 3; size = 4; }"
        for numbers, names, right in (
            ((2, 1, 3), "amn", True),
            ((1, 2, 3), "man", True),
            ((2, 3, 1), "nam", True),
            ((3, 1, 2), "amn", False),
            ((2, 3, 4), "amn", False),
            ((1, 2, 3), "amn", False),
            ((2, 1, 4), "amn", False),
            ((0, 1, 2), "amn", False),
            ((2, 1, 2), "amn", False),
        ):
            self.assertIs(
                self.judge(text, entries, look_of(), [make_net(k) for k in numbers], names=names), right, numbers
            )
        self.wrong(N, [("run", 1)], look_of(), [make_net(0, token=(6, 0))], names="n")
        self.right(N, [("run", 1)], look_of(), [make_net(0, token=(5, 0))], names="n")

    def test_begun_names_behind_the_facts(self):
        # The name was begun in an earlier run, and is dropped.
        entries = [("run", 1), ("begin", "n", 0), ("run", 2)]
        look = look_of(fence=2)
        self.right(N, entries, look, [make_net(1, (5, 2))], names="n")
        self.wrong(N, entries, look, [make_net(0, (5, 2))], names="n")
        # It is lost.
        look = look_of(spent=((5, 0),))
        self.right(N, entries[:2], look, [make_net(1)], names="n")
        self.wrong(N, entries[:2], look, [make_net(0)], names="n")
        # It is bound.
        look = look_of(made(4, "net", 0, code=None, size=4, zone=3))
        self.right(N, entries[:2], look, [])
        self.wrong(N, entries[:2], look, [make_net(1)], names="n")

    def test_names(self):
        text = N + "thing m: net { zone = 3; size = 4; }"
        calls = [make_net(0), make_net(1)]
        for names in (("m", "n"), ("n", "m")):
            self.right(text, [("run", 1)], look_of(), calls, names=names)
        for names in ((), ("m",), ("m", "m"), ("n", "n"), ("m", "n", "n"), ("m", "x"), ("m", "n", "x")):
            self.wrong(text, [("run", 1)], look_of(), calls, names=names)
        text = N + "thing m: net { zone = 3; size = 5; }"
        calls = [make_net(0, size=5), make_net(1)]
        self.right(text, [("run", 1)], look_of(), calls, names="mn")
        self.wrong(text, [("run", 1)], look_of(), calls, names="nm")

    def test_names_that_are_let_and_made_again(self):
        text = "thing n: net { zone = 5; size = 4; } thing m: net { zone = 3; size = 4; }"
        look, entries = look_of(net(1)), journal_of(n=1)
        reasons = [("n", ("fixed", "zone"))]
        take = ("take", MARK, 1, 1)
        calls = [make_net(0), make_net(1, zone=5), take]
        self.right(text, entries, look, calls, reasons, "mn")
        self.right(text, entries, look, [take, *calls[:2]], reasons, "mn")
        self.wrong(text, entries, look, calls[:2], reasons, "mn")
        self.wrong(text, entries, look, calls, [], "mn")
        self.wrong(text, entries, look, calls, [("n", ("removed",))], "mn")
        self.wrong(text, entries, look, calls, reasons * 2, "mn")
        self.wrong(text, entries, look, calls, [*reasons, ("m", ("removed",))], "mn")
        self.wrong(text, entries, look, calls, reasons, "m")
        # To take the thing that could stay is no preview.
        self.wrong(
            text, entries, look, [make_net(0), make_net(1, zone=5), ("change", MARK, 1, 1, "size", 9)], reasons, "mn"
        )

    def test_order_of_reasons(self):
        look, entries = look_of(net(1), net(2)), journal_of(n=1, m=2)
        reasons = [("m", ("removed",)), ("n", ("removed",))]
        takes = [("take", MARK, 1, 1), ("take", MARK, 2, 1)]
        self.right("", entries, look, takes, reasons)
        self.right("", entries, look, takes[::-1], reasons)
        self.wrong("", entries, look, takes, reasons[::-1])

    def test_bars(self):
        text = "thing n: net { zone = 5; size = 4; } "
        calls, reasons = [make_net(0, zone=5), ("take", MARK, 1, 1)], [("n", ("fixed", "zone"))]
        look, entries = look_of(net(1)), journal_of(n=1)
        self.right(text, entries, look, calls, reasons, "n")
        self.right(text + "most 1;", entries, look, calls, reasons, "n")
        for bar in ("keep n;", "most 0;"):
            self.wrong(text + bar, entries, look, calls, reasons, "n")
            self.wrong(text + bar, entries, look, calls, [], "n")
            self.wrong(text + bar, entries, look, [], [], "")

    def test_things_that_are_the_owners(self):
        # A leftover, and a thing with a token that the journal does not know.
        self.wrong(N, journal_of(n=1, leftovers=(2,)), look_of(net(1), net(2)), [])
        self.right(N, journal_of(n=1, leftovers=(2,)), look_of(net(1), net(2)), [("take", MARK, 2, 1)])
        self.wrong(N, journal_of(n=1), look_of(net(1), made(2, "net", 7, code=None, size=4, zone=3)), [])
        self.right(N, journal_of(n=1), look_of(net(1), thing(2, "net", (6, 7), code=None, size=4, zone=3)), [])

    def test_names_of_one_thing(self):
        text = N + "thing m: net { zone = 3; size = 4; }"
        self.right(text, journal_of(m=2, n=1), look_of(net(1), net(2)), [])
        self.wrong(text, journal_of(m=1, n=1), look_of(net(1), net(2)), [])

    def test_made_thing_of_another_kind(self):
        text = "kind one { f: number; } kind two { f: number; } thing a: one { f = 4; }"
        for kind in ("one", "two"):
            make = ("make", MARK, (OWNER, 0), kind, (("f", 4),))
            given = ((make,), ("settled",), (), ("a",))
            self.assertIs(judge_preview(read_land(text), OWNER, [("run", 1)], look_of(), given), kind == "one")

    def test_made_thing_that_does_not_live_at_last(self):
        look = look_of()
        self.wrong(N, [("run", 1)], look, [make_net(0), ("take", MARK, 51, 1)], names="n")
        text = N + "thing b: box { port = told n; }"
        make = ("make", MARK, (OWNER, 1), "box", (("at", None), ("hold", None), ("port", 1357), ("up", None)))
        self.right(text, [("run", 1)], look, [make_net(0), make], names="nb")
        self.wrong(text, [("run", 1)], look, [make_net(0), make, ("take", MARK, 51, 1)], names="nb")

    def test_wants_are_those_of_the_end(self):
        # No text has a circle; here it shows that a call behind the makes counts.
        make = ("make", MARK, (OWNER, 1), "box", (("at", None), ("hold", None), ("port", 1014), ("up", None)))
        change = ("change", MARK, 2, 1, "up", 51)
        look = look_of(box(2, at=9, port=2), net(9))
        entries = [("run", 1), ("begin", "x", 0), ("drop", "x"), ("adopt", "b", 2, 1), ("adopt", "n", 9, 2)]
        circle = self.land(N + "thing b: box { at = n; port = 2; } thing c: box { port = told b; }")
        circle.things["b"][1]["up"] = ("name", "c")
        given = ((make, change), ("settled",), (), ("c",))
        self.assertIs(judge_preview(circle, OWNER, entries, look, given), True)
        given = ((make,), ("settled",), (), ("c",))
        self.assertIs(judge_preview(circle, OWNER, entries, look, given), False)

    def test_errors_of_decide(self):
        given = ((), ("settled",), (), ())
        for entries in ([], [("begin", "n", 0)], [("run", 1), ("gone", 3)], [("run", 1), ("run", "2")]):
            for look in (look_of(), look_of(moment=0, fence=9)):
                with self.assertRaises(InvalidJournal):
                    judge_preview(self.land(N), OWNER, entries, look, given)
                with self.assertRaises(InvalidJournal):
                    judge_preview(self.land(N), OWNER, entries, look, ((), ("stuck", ()), (), ()))
                with self.assertRaises(InvalidJournal):
                    judge_stuck(self.land(N), OWNER, entries, look, ())


class Papers(JudgeCase):
    TEXT = "thing a: key { code = 1; } thing m: key { tag = 2; } thing b: key { tag = told m; } "
    ENTRIES = journal_of(a=1, leftovers=(5,))
    THINGS = (key(1), key(2, 1, 2), net(5), box(6, at=5))
    PAPER = (
        ("change", "a", "code", ("borne", 2)),
        ("make", "b", ("wait", "tag", "m")),
        ("make", "m", ("borne", "tag", 2)),
        ("take", 5, ("needed", 6)),
    )

    def check(self, expected, *paper, text="", entries=None, **more):
        self.stuck(expected, self.TEXT + text, entries or self.ENTRIES, look_of(*self.THINGS, **more), *paper)

    def test_paper_of_the_decider(self):
        told = self.told(self.TEXT, self.ENTRIES, look_of(*self.THINGS))
        self.assertEqual(told, ((), ("stuck", self.PAPER)))
        self.check(True, *self.PAPER)

    def test_other_papers(self):
        for at in range(len(self.PAPER)):
            self.check(False, *self.PAPER[:at], *self.PAPER[at + 1 :])
            self.check(False, *self.PAPER[: at + 1], *self.PAPER[at:])
            self.check(False, *self.PAPER[at + 1 :], *self.PAPER[: at + 1]) if at < 3 else None
        self.check(False)
        self.check(False, *self.PAPER, ("take", 6, ("needed", 7)))
        self.check(False, *self.PAPER, ("make", "z", ("wait", "tag", "m")))
        for at, line in (
            (0, ("change", "a", "code", ("borne", 3))),
            (0, ("change", "a", "code", ("wait", "m"))),
            (0, ("change", "a", "tag", ("borne", 2))),
            (1, ("make", "b", ("wait", "tag", "a"))),
            (1, ("make", "b", ("borne", "tag", 2))),
            (2, ("make", "m", ("borne", "code", 2))),
            (3, ("take", 5, ("needed", 1))),
            (3, ("take", 6, ("needed", 6))),
        ):
            self.check(False, *self.PAPER[:at], line, *self.PAPER[at + 1 :])

    def test_look_that_is_old(self):
        self.check(True, *self.PAPER, moment=40)
        self.check(False, *self.PAPER, moment=39)

    def test_other_fences(self):
        self.check(False, *self.PAPER, fence=0)
        self.check(False, *self.PAPER, fence=2)

    def test_new_run(self):
        self.check(False, *self.PAPER, entries=self.ENTRIES + [("run", 2)])
        self.check(True, *self.PAPER, entries=self.ENTRIES + [("run", 2)], fence=2)

    def test_bars(self):
        entries = self.ENTRIES + [("adopt", "x", 9, 41)]
        self.check(True, *self.PAPER, entries=entries)
        # The thing of the name lives: it is let.
        for text in ("most 0;",):
            look = look_of(*self.THINGS, net(9))
            lines = (*self.PAPER, ("take", 9, ("needed", 10)))
            things = (*self.THINGS, net(9), box(10, at=9, port=7))
            self.stuck(True, self.TEXT, entries, look_of(*things), *lines)
            self.stuck(False, self.TEXT + text, entries, look_of(*things), *lines)
            self.stuck(False, self.TEXT + text, entries, look, *self.PAPER)
        text = self.TEXT.replace("code = 1;", "code = 1; tag = 6;")
        lines = (("make", "a", ("borne", "code", 2)), *self.PAPER[1:3], ("take", 1, ("needed", 7)), self.PAPER[3])
        self.assertEqual(self.told(text + "keep a;", self.ENTRIES, look_of(*self.THINGS))[1], ("barred", "keep", "a"))
        self.stuck(False, text + "keep a;", self.ENTRIES, look_of(*self.THINGS), *lines)

    def test_possible_calls(self):
        # With one of these more something is possible: a change, a make, a take, a clearing.
        paper = self.PAPER
        self.stuck(True, self.TEXT, self.ENTRIES, look_of(*self.THINGS), *paper)
        things = (key(1, None, 4), *self.THINGS[1:])
        reasons = self.told(self.TEXT, self.ENTRIES, look_of(*things))
        self.assertEqual(reasons[0], (("let", "a"),))
        self.stuck(False, self.TEXT, self.ENTRIES, look_of(*things), *paper)
        text = self.TEXT + "thing n: net { zone = 1; size = 1; }"
        self.stuck(False, text, self.ENTRIES, look_of(*self.THINGS), *paper)
        self.stuck(False, text, journal_of(a=1, n=9, leftovers=(5,)), look_of(*self.THINGS, net(9, 7, 1, 1)), *paper)
        self.stuck(False, self.TEXT, self.ENTRIES, look_of(*self.THINGS[:3]), *paper)
        self.stuck(False, "", journal_of(leftovers=(5,)), look_of(box(5, up=5)), ("take", 5, ("needed", 5)))
        self.stuck(True, "", journal_of(leftovers=(5,)), look_of(box(5, hold=5)), ("take", 5, ("needed", 5)))

    def test_settled_land(self):
        self.stuck(False, N, journal_of(n=1), look_of(net(1)))
        self.stuck(False, N, journal_of(n=1), look_of(net(1)), ("make", "n", ("wait", "size", "n")))


def call_changed(call, dice, mark):
    """Returns some other calls than this one."""
    word, *rest = call
    found = [(word, other, *rest[1:]) for other in ((mark[0] + 1, mark[1]), (mark[0], mark[1] + 1))]
    if word == "make":
        token = call[2]
        found.append((word, mark, (token[0], token[1] + 1), *call[3:]))
        found.append((word, mark, (token[0] + 1, token[1]), *call[3:]))
        found.append((word, mark, token, "other", call[4]))
        if call[4]:
            at = dice.randrange(len(call[4]))
            field, value = call[4][at]
            changed = (field, (value or 0) + 900)
            found.append((*call[:4], (*call[4][:at], changed, *call[4][at + 1 :])))
    elif word == "change":
        found.append((*call[:3], call[3] + 1, *call[4:]))
        found.append((*call[:5], (call[5] or 0) + 900))
        found.append((*call[:2], call[2] + 900, *call[3:]))
    elif word == "take":
        found.extend([(*call[:3], call[3] + 1), (*call[:2], call[2] + 900, call[3])])
    return found


class Drawn(unittest.TestCase):
    def owners(self, seeds, events=40):
        for seed in seeds:
            story = Story(seed, (5, 6)[: 1 + seed % 2], bars=0.05)
            for _ in range(events):
                story.event()
            for owner in story.owners:
                yield story, (owner.land, owner.number, owner.journal, story.look())

    def test_previews(self):
        seen = collections.Counter()
        for story, scene in self.owners(range(110)):
            given = preview(*scene)
            calls, result, reasons, names = given
            right = result == ("settled",)
            self.assertIs(judge_preview(*scene, given), right, given)
            seen[right] += 1
            for other in (("settled",), ("stuck", ()), ("overtaken",), ("old look",)):
                if other != result:
                    self.assertIs(judge_preview(*scene, (calls, other, reasons, names)), False)
            if right:
                self.check_wrong(story, scene, given)

    def check_wrong(self, story, scene, given):
        calls, result, reasons, names = given
        for at, call in enumerate(calls):
            left_out = calls[:at] + calls[at + 1 :]
            # What was cleared can be changed without it.
            if not (call[0] == "change" and call[5] is None):
                self.wrong(scene, (left_out, result, reasons, names))
            self.wrong(scene, (calls[: at + 1] + calls[at:], result, reasons, names))
            for other in call_changed(call, story.dice, calls[0][1]):
                self.wrong(scene, (calls[:at] + (other,) + calls[at + 1 :], result, reasons, names))
        for at in range(len(reasons)):
            self.wrong(scene, (calls, result, reasons[:at] + reasons[at + 1 :], names))
            self.wrong(scene, (calls, result, reasons[: at + 1] + reasons[at:], names))
            self.wrong(
                scene, (calls, result, reasons[:at] + ((reasons[at][0], ("other",)),) + reasons[at + 1 :], names)
            )
            if at and reasons[at] != reasons[at - 1]:
                swapped = reasons[: at - 1] + (reasons[at], reasons[at - 1]) + reasons[at + 1 :]
                self.wrong(scene, (calls, result, swapped, names))
        for at in range(len(names)):
            self.wrong(scene, (calls, result, reasons, names[:at] + names[at + 1 :]))
            self.wrong(scene, (calls, result, reasons, names[: at + 1] + names[at:]))
            self.wrong(scene, (calls, result, reasons, names[:at] + ("other",) + names[at + 1 :]))
        self.wrong(scene, (calls, result, reasons + (("other", ("removed",)),), names))

    def wrong(self, scene, given):
        before = copy.deepcopy((scene[1:], given))
        self.assertIs(judge_preview(*scene, given), False, given)
        self.assertEqual((scene[1:], given), before)

    def test_other_right_orders(self):
        many = 0
        for story, scene in self.owners(range(200, 300)):
            calls, result, reasons, names = preview(*scene)
            if result != ("settled",):
                continue
            for at in range(1, len(calls)):
                first, second = calls[at - 1], calls[at]
                if {first[0], second[0]} == {"change"} and first[2] != second[2]:
                    if first[5] is not None and second[5] is not None:
                        swapped = calls[: at - 1] + (second, first) + calls[at + 1 :]
                        many += judge_preview(*scene, (swapped, result, reasons, names))
            makes = [call for call in calls if call[0] == "make"]
            others = [call for call in calls if call[0] not in ("make", "fence")]
            if makes and others and all(call[0] == "take" for call in others):
                # All takes ahead of all makes: nothing refers to a leftover then either.
                order = [call for call in calls if call[0] == "fence"] + others + makes
                self.assertIs(judge_preview(*scene, (tuple(order), result, reasons, names)), True)
                many += 1
        self.assertGreater(many, 5)

    def test_stuck(self):
        many = 0
        for story, scene in self.owners(range(400, 520)):
            _, result = decide(*scene)
            if result[0] != "stuck":
                self.assertIs(judge_stuck(*scene, (("make", "a", ("wait", "at", "b")),)), False)
                self.assertIs(judge_stuck(*scene, ()), False)
                continue
            many += 1
            paper = result[1]
            self.assertIs(judge_stuck(*scene, paper), True)
            for at in range(len(paper)):
                self.assertIs(judge_stuck(*scene, paper[:at] + paper[at + 1 :]), False)
                self.assertIs(judge_stuck(*scene, paper[: at + 1] + paper[at:]), False)
                changed = (*paper[at][:-1], (*paper[at][-1][:-1], "other"))
                self.assertIs(judge_stuck(*scene, paper[:at] + (changed,) + paper[at + 1 :]), False)
            land, number, journal, look = scene
            for fences in ((), ((number, 999),)):
                self.assertIs(judge_stuck(land, number, journal, (look[0], fences, *look[2:]), paper), False)
            self.assertIs(judge_stuck(land, number, journal + [("run", 999)], look, paper), False)
        self.assertGreater(many, 5)


if __name__ == "__main__":
    unittest.main()
