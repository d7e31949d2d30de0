"""Point 15, steps 1 to 7: old looks, fences, what begun and bound names have become, moves,
adopts, lets and what bars them. All with examples written by hand."""

import unittest

from settledland.decider import decide
from settledland.errors import InvalidJournal
from settledland.lands import read_land
from settledland.outside import Outside

from tests.scenes import MARK, OWNER, DecidingCase, journal_of, look_of, made, thing

KINDS = "kind net { zone: number fixed; size: number; } kind box { at: ref net fixed; up: ref box empty; } "
SETTLED = ("settled",)
N = "thing n: net { zone = 3; size = 4; } "
B = "thing b: box { at = n; } "


def net(number, zone=3, size=4, token=(), version=1):
    return thing(number, "net", token, version, zone=zone, size=size)


def own_net(number, k, zone=3, size=4):
    return made(number, "net", k, zone=zone, size=size)


def box(number, at=1, up=None, token=()):
    return thing(number, "box", token, at=at, up=up)


def make_net(k, zone=3, size=4, mark=MARK):
    return ("make", mark, (OWNER, k), "net", (("size", size), ("zone", zone)))


def make_box(k, at, up=None, mark=MARK):
    return ("make", mark, (OWNER, k), "box", (("at", at), ("up", up)))


class StepCase(DecidingCase):
    kinds = KINDS


class FirstDecisions(unittest.TestCase):
    def test_fence_and_make(self):
        land = read_land("kind net { zone: number fixed; } thing n: net { zone = 3; }")
        outside = Outside(land.kinds)
        self.assertEqual(decide(land, 5, [("run", 1)], outside.look()), ((), ("fence", (5, 1))))
        self.assertEqual(outside.do(("fence", (5, 1))), ("done",))
        make = ("make", (5, 1), (5, 0), "net", (("zone", 3),))
        self.assertEqual(decide(land, 5, [("run", 1)], outside.look()), ((("begin", "n", 0),), make))
        # The call is told again until the thing is seen.
        entries = [("run", 1), ("begin", "n", 0)]
        self.assertEqual(decide(land, 5, entries, outside.look()), ((), make))
        outside.do(make)
        self.assertEqual(decide(land, 5, entries, outside.look()), ((("bind", "n", 1, 2),), SETTLED))


class Errors(StepCase):
    def refused(self, entries, look=look_of()):
        with self.assertRaises(InvalidJournal):
            decide(self.land(N), OWNER, entries, look)

    def test_journals_without_a_run(self):
        self.refused([])
        self.refused(())
        self.refused([("begin", "n", 0)])
        self.refused([("adopt", "n", 1, 3)], look_of(net(1)))
        self.refused([], look_of(moment=0, fence=0))

    def test_journals_that_do_not_fit(self):
        self.refused([("run", 1), ("let", "n")])
        self.refused([("run", 1), ("run", 1)])
        self.refused([("run", 1), ("nothing", "n")])
        self.refused([["run", 1]])
        self.refused([("run", "1")])
        self.refused([("let", "n")])

    def test_errors_come_ahead_of_old_looks(self):
        self.refused([("adopt", "n", 1, 90)])
        self.refused([("run", 1), ("adopt", "n", 1, 90), ("gone", 3)])


class OldLooks(StepCase):
    def test_moment_of_the_state(self):
        entries = journal_of(moment=40, n=1)
        for moment, result in ((39, ("old look",)), (40, SETTLED), (41, SETTLED), (1, ("old look",))):
            self.check(N, entries, look_of(net(1), moment=moment), (), result)

    def test_old_looks_come_ahead_of_fences(self):
        entries = journal_of(run=3, moment=40, n=1)
        for fence in (0, 2, 3, 4):
            self.check(N, entries, look_of(net(1), moment=39, fence=fence), (), ("old look",))

    def test_nothing_is_found_with_an_old_look(self):
        entries = journal_of(n=1, leftovers=(2,)) + [("begin", "m", 0)]
        self.check(N, entries, look_of(made(3, "net", 0, zone=1, size=1), moment=39), (), ("old look",))

    def test_first_look_is_not_too_old(self):
        self.check("", [("run", 1)], look_of(moment=0, fence=0), (), ("fence", MARK))


class Fences(StepCase):
    def test_fence_that_is_greater(self):
        entries = journal_of(run=3, n=1)
        for fence in (4, 90):
            self.check(N, entries, look_of(net(1), fence=fence), (), ("overtaken",))

    def test_fence_that_is_less(self):
        entries = journal_of(run=3, n=1)
        for fence in (0, 1, 2):
            self.check(N, entries, look_of(net(1), fence=fence), (), ("fence", (5, 3)))

    def test_fence_of_the_run(self):
        self.check(N, journal_of(run=3, n=1), look_of(net(1), fence=3), (), SETTLED)

    def test_fences_of_other_owners_do_not_count(self):
        look = (50, ((4, 9), (6, 9)), (net(1),), ())
        self.check(N, journal_of(run=3, n=1), look, (), ("fence", (5, 3)))
        look = (50, ((4, 9), (5, 3), (6, 9)), (net(1),), ())
        self.check(N, journal_of(run=3, n=1), look, (), SETTLED)

    def test_nothing_is_found_ahead_of_the_fence(self):
        entries = journal_of(run=3, n=1, m=2, leftovers=(3,))
        self.check(N, entries, look_of(fence=2), (), ("fence", (5, 3)))
        self.check(N, entries, look_of(fence=4), (), ("overtaken",))


class Begun(StepCase):
    BEGUN = [("run", 1), ("begin", "n", 0)]

    def test_bound_if_a_living_thing_has_the_token(self):
        self.check(N, self.BEGUN, look_of(own_net(7, 0), moment=8), [("bind", "n", 7, 8)], SETTLED)

    def test_bound_in_a_later_run_too(self):
        look = look_of(own_net(7, 0), moment=8, fence=2)
        self.check(N, self.BEGUN + [("run", 2)], look, [("bind", "n", 7, 8)], SETTLED)

    def test_tokens_of_other_owners_do_not_count(self):
        look = look_of(net(7, token=(6, 0)), net(8), spent=((4, 0), (6, 1)))
        self.check(N, self.BEGUN, look, [], make_net(0))

    def test_lost_if_the_token_is_spent(self):
        look = look_of(spent=((5, 0),))
        found = [("lost", "n"), ("begin", "n", 1)]
        self.check(N, self.BEGUN, look, found, make_net(1))
        look = look_of(spent=((5, 0),), fence=2)
        self.check(N, self.BEGUN + [("run", 2)], look, found, make_net(1, mark=(5, 2)))

    def test_dropped_if_begun_in_an_earlier_run(self):
        found = [("drop", "n"), ("begin", "n", 1)]
        self.check(N, self.BEGUN + [("run", 2)], look_of(fence=2), found, make_net(1, mark=(5, 2)))

    def test_stays_if_begun_in_this_run(self):
        self.check(N, self.BEGUN, look_of(), [], make_net(0))
        entries = [("run", 1), ("begin", "x", 0), ("run", 4), ("drop", "x"), ("begin", "n", 1)]
        self.check(N, entries, look_of(fence=4), [], make_net(1, mark=(5, 4)))

    def test_begun_names_of_all_sorts_in_order(self):
        entries = [("run", 1), ("begin", "d", 0), ("begin", "c", 1), ("begin", "b", 2), ("run", 2), ("begin", "a", 3)]
        look = look_of(own_net(2, 0), moment=9, fence=2, spent=((5, 1),))
        text = "".join(N.replace("n:", name + ":") for name in "abcd")
        found = [("drop", "b"), ("lost", "c"), ("bind", "d", 2, 9)]
        self.check(text, entries, look, found, make_net(3, mark=(5, 2)))

    def test_name_that_is_bound_counts_at_once(self):
        look = look_of(own_net(7, 0), moment=8)
        self.check(N + B, self.BEGUN, look, [("bind", "n", 7, 8), ("begin", "b", 1)], make_box(1, 7))
        self.check("", self.BEGUN, look, [("bind", "n", 7, 8), ("let", "n")], ("take", MARK, 7, 1))

    def test_begun_name_that_the_land_does_not_have(self):
        self.check(N, [("run", 1), ("begin", "x", 0), ("adopt", "n", 1, 1)], look_of(net(1)), [], SETTLED)


class Gone(StepCase):
    def test_bound_names_whose_things_do_not_live(self):
        entries = journal_of(a=1, b=2, c=3)
        text = "".join(N.replace("n:", name + ":") for name in "abc")
        found = [("lost", "a"), ("lost", "c"), ("begin", "a", 0)]
        self.check(text, entries, look_of(net(2)), found, make_net(0))

    def test_lost_names_of_removed_things(self):
        self.check("", journal_of(a=1, b=2), look_of(), [("lost", "a"), ("lost", "b")], SETTLED)

    def test_leftovers_that_do_not_live(self):
        entries = journal_of(leftovers=(4, 2, 3), n=1)
        self.check(N, entries, look_of(net(1), net(3)), [("gone", 2), ("gone", 4)], ("take", MARK, 3, 1))
        self.check(N, entries, look_of(net(1)), [("gone", 2), ("gone", 3), ("gone", 4)], SETTLED)

    def test_names_ahead_of_leftovers(self):
        found = [("lost", "n"), ("gone", 2), ("begin", "n", 0)]
        self.check(N, journal_of(leftovers=(2,), n=1), look_of(), found, make_net(0))

    def test_lost_name_counts_at_once(self):
        found = [("lost", "n"), ("let", "b"), ("begin", "n", 0)]
        self.check(N + B, journal_of(n=1, b=2), look_of(net(9), box(2, 9)), found, make_net(0))

    def test_name_whose_thing_is_lost_is_free_for_a_move(self):
        found = [("lost", "n"), ("move", "m", "n")]
        self.check(N + "move m to n;", journal_of(n=1, m=2), look_of(net(2)), found, SETTLED)


class Moves(StepCase):
    TEXT = N + "move m to n;"

    def test_move(self):
        self.check(self.TEXT, journal_of(m=2), look_of(net(2)), [("move", "m", "n")], SETTLED)

    def test_old_name_that_is_not_bound(self):
        self.check(self.TEXT, journal_of(), look_of(net(2)), [("begin", "n", 0)], make_net(0))
        entries = [("run", 1), ("begin", "m", 0)]
        self.check(self.TEXT, entries, look_of(), [("begin", "n", 1)], make_net(1))

    def test_old_name_that_was_begun_and_is_seen(self):
        entries = [("run", 1), ("begin", "m", 0)]
        found = [("bind", "m", 7, 50), ("move", "m", "n")]
        self.check(self.TEXT, entries, look_of(own_net(7, 0)), found, SETTLED)

    def test_old_name_that_is_lost(self):
        found = [("lost", "m"), ("begin", "n", 0)]
        self.check(self.TEXT, journal_of(m=2), look_of(), found, make_net(0))

    def test_new_name_that_is_bound(self):
        found = [("let", "m")]
        self.check(self.TEXT, journal_of(n=1, m=2), look_of(net(1), net(2)), found, ("take", MARK, 2, 1))

    def test_new_name_that_is_begun(self):
        entries = [("run", 1), ("adopt", "m", 2, 3), ("begin", "n", 0)]
        self.check(self.TEXT, entries, look_of(net(2)), [("let", "m")], make_net(0))

    def test_new_name_that_was_begun_in_an_earlier_run(self):
        entries = [("run", 1), ("adopt", "m", 2, 3), ("begin", "n", 0), ("run", 2)]
        found = [("drop", "n"), ("move", "m", "n")]
        self.check(self.TEXT, entries, look_of(net(2), fence=2), found, SETTLED)

    def test_in_the_order_of_the_new_names(self):
        text = "".join(N.replace("n:", name + ":") for name in "abc") + "move x to c; move y to b; move z to a;"
        found = [("move", "z", "a"), ("move", "y", "b"), ("move", "x", "c")]
        self.check(text, journal_of(x=1, y=2, z=3), look_of(net(1), net(2), net(3)), found, SETTLED)

    def test_moved_name_counts_at_once(self):
        found = [("move", "m", "n"), ("let", "n"), ("begin", "n", 0)]
        self.check(self.TEXT, journal_of(m=2), look_of(net(2, 9)), found, make_net(0))
        found = [("move", "m", "n")]
        self.check(self.TEXT + "adopt 1 as n;", journal_of(m=2), look_of(net(1), net(2)), found, SETTLED)

    def test_moves_keep_what_refers(self):
        text = N + B + "move m to n; move c to b;"
        self.check(
            text, journal_of(m=1, c=2), look_of(net(1), box(2)), [("move", "c", "b"), ("move", "m", "n")], SETTLED
        )


class Adopts(StepCase):
    TEXT = N + "adopt 1 as n;"

    def free(self, entries, *things, found=(), k=0, **more):
        """Checks that nothing is adopted, and n is made."""
        found = [*found, ("begin", "n", k)]
        self.check(self.TEXT, entries, look_of(*things, **more), found, make_net(k))

    def test_adopt(self):
        self.check(self.TEXT, journal_of(), look_of(net(1)), [("adopt", "n", 1, 50)], SETTLED)

    def test_values_that_are_not_fixed_are_changed(self):
        found = [("adopt", "n", 1, 50)]
        self.check(
            self.TEXT, journal_of(), look_of(net(1, size=9, version=6)), found, ("change", MARK, 1, 6, "size", 4)
        )

    def test_name_that_is_bound(self):
        self.check(self.TEXT, journal_of(n=2), look_of(net(1), net(2)), [], SETTLED)

    def test_name_that_is_begun(self):
        self.check(self.TEXT, [("run", 1), ("begin", "n", 0)], look_of(net(1)), [], make_net(0))

    def test_name_that_was_begun_in_an_earlier_run(self):
        entries = [("run", 1), ("begin", "n", 0), ("run", 2)]
        found = [("drop", "n"), ("adopt", "n", 1, 50)]
        self.check(self.TEXT, entries, look_of(net(1), fence=2), found, SETTLED)

    def test_thing_that_does_not_live(self):
        self.free(journal_of())
        self.free(journal_of(), net(2))

    def test_thing_with_a_token(self):
        self.free(journal_of(), net(1, token=(6, 0)))
        self.free([("run", 1), ("begin", "x", 0), ("drop", "x")], net(1, token=(5, 0)), k=1)

    def test_thing_of_another_kind(self):
        self.free(journal_of(), box(1, 2), net(2))

    def test_thing_that_is_bound(self):
        text = N + "thing m: net { zone = 3; size = 4; } adopt 1 as n;"
        self.check(text, journal_of(m=1), look_of(net(1)), [("begin", "n", 0)], make_net(0))

    def test_thing_that_is_a_leftover(self):
        self.free(journal_of(leftovers=(1,)), net(1))

    def test_in_the_order_of_the_names(self):
        text = "".join(N.replace("n:", name + ":") for name in "abc") + "adopt 1 as c; adopt 2 as b; adopt 3 as a;"
        found = [("adopt", "a", 3, 50), ("adopt", "b", 2, 50), ("adopt", "c", 1, 50)]
        self.check(text, journal_of(), look_of(net(1), net(2), net(3)), found, SETTLED)

    def test_adopted_name_counts_at_once(self):
        found = [("adopt", "n", 1, 50), ("begin", "b", 0)]
        self.check(self.TEXT + B, journal_of(), look_of(net(1)), found, make_box(0, 1))

    def test_name_that_is_lost_is_adopted(self):
        found = [("lost", "n"), ("adopt", "n", 1, 50)]
        self.check(self.TEXT, journal_of(n=2), look_of(net(1)), found, SETTLED)


class Lets(StepCase):
    def test_lets_in_order(self):
        text = "thing n: net { zone = 9; size = 4; } " + B
        found = [("let", "a"), ("let", "b"), ("let", "n"), ("begin", "n", 0)]
        self.check(text, journal_of(n=1, b=2, a=3), look_of(net(1), box(2), net(3)), found, make_net(0, 9))

    def test_no_lets_no_entries(self):
        self.check(N + B, journal_of(n=1, b=2), look_of(net(1), box(2)), [], SETTLED)

    def test_adopt_behind_lets(self):
        # The name is bound to a thing whose zone is another one; that to adopt is right.
        text = N + B + "adopt 7 as n;"
        found = [("let", "b"), ("let", "n"), ("adopt", "n", 7, 50), ("begin", "b", 0)]
        look = look_of(net(1, 9), box(2), net(7))
        self.check(text, journal_of(n=1, b=2), look, found, make_box(0, 7))

    def test_lets_behind_adopts_behind_lets(self):
        # The thing that is adopted for n behind the first lets is not right either.
        text = N + B + "adopt 7 as n; adopt 8 as b;"
        look = look_of(net(1, 9), box(2), net(7, 8), box(8, 7))
        found = [
            ("let", "b"), ("let", "n"), ("adopt", "b", 8, 50), ("adopt", "n", 7, 50), ("let", "b"), ("let", "n"),
            ("begin", "n", 0),
        ]
        self.check(text, journal_of(n=1, b=2), look, found, make_net(0))

    def test_adopted_thing_that_is_not_right_is_let(self):
        found = [("adopt", "n", 1, 50), ("let", "n"), ("begin", "n", 0)]
        self.check(N + "adopt 1 as n;", journal_of(), look_of(net(1, 9)), found, make_net(0))

    def test_thing_of_a_let_is_not_adopted_for_another_name(self):
        text = N + "adopt 1 as n;"
        found = [("let", "m"), ("begin", "n", 0)]
        self.check(text, journal_of(m=1), look_of(net(1)), found, make_net(0))

    def test_lets_count_as_leftovers_at_once(self):
        self.check("", journal_of(n=1), look_of(net(1, version=4)), [("let", "n")], ("take", MARK, 1, 4))


class Keep(StepCase):
    TEXT = "thing n: net { zone = 9; size = 4; } thing m: net { zone = 9; size = 4; } " + B

    def test_kept_name_that_is_let(self):
        entries, look = journal_of(n=1, b=2), look_of(net(1), box(2))
        for keeps, name in (("keep n;", "n"), ("keep b;", "b"), ("keep n; keep b;", "b"), ("keep m; keep n;", "n")):
            self.check(self.TEXT + keeps, entries, look, [], ("barred", "keep", name))

    def test_kept_name_that_is_not_let(self):
        text = N + B + "thing m: net { zone = 9; size = 4; } keep n; keep b; keep m;"
        self.check(text, journal_of(n=1, b=2), look_of(net(1), box(2)), [("begin", "m", 0)], make_net(0, 9))

    def test_kept_name_that_is_lost_is_not_let(self):
        found = [("lost", "n"), ("begin", "n", 0)]
        self.check(N + "keep n;", journal_of(n=1), look_of(), found, make_net(0))

    def test_kept_name_that_is_let_behind_an_adopt(self):
        text = N + "adopt 1 as n; keep n;"
        self.check(text, journal_of(), look_of(net(1, 9)), [("adopt", "n", 1, 50)], ("barred", "keep", "n"))

    def test_kept_name_in_the_second_lets(self):
        # The name c is not bound at first: it is let behind its adopt in the second row.
        text = "thing n: net { zone = 3; size = 4; } thing c: net { zone = 3; size = 4; } adopt 7 as c; keep c;"
        self.check(text, journal_of(c=1), look_of(net(1, 9), net(7, 9)), [], ("barred", "keep", "c"))
        text = text.replace("keep c", "most 1")
        self.check(text, journal_of(c=1), look_of(net(1, 9), net(7, 9)), [], ("barred", "most", 2))

    def test_keep_comes_ahead_of_most(self):
        text = self.TEXT + "keep n; most 0;"
        self.check(text, journal_of(n=1, b=2), look_of(net(1), box(2)), [], ("barred", "keep", "n"))

    def test_entries_of_the_steps_before_are_told(self):
        entries = [("run", 1), ("adopt", "x", 1, 2), ("adopt", "b", 2, 2), ("adopt", "z", 4, 2), ("begin", "m", 0)]
        entries += [("adopt", "y", 5, 3), ("let", "y")]
        text = self.TEXT + "move x to n; keep n; adopt 6 as n; thing w: net { zone = 1; size = 1; } adopt 8 as w;"
        look = look_of(net(1), box(2), net(6, 9), net(8, 1, 1), own_net(9, 0, 9))
        found = [("bind", "m", 9, 50), ("lost", "z"), ("gone", 5), ("move", "x", "n"), ("adopt", "w", 8, 50)]
        self.check(text, entries, look, found, ("barred", "keep", "n"))
        # Without the bar the thing 6 is adopted.
        more = [("let", "b"), ("let", "n"), ("adopt", "n", 6, 50), ("begin", "b", 1)]
        self.check(text.replace("keep n;", ""), entries, look, found + more, make_box(1, 6))


class Most(StepCase):
    TEXT = "thing n: net { zone = 9; size = 4; } " + B
    ENTRIES, LOOK = journal_of(n=1, b=2), look_of(net(1), box(2))
    FOUND = [("let", "b"), ("let", "n"), ("begin", "n", 0)]

    def test_number_of_lets(self):
        for most in (0, 1):
            self.check(self.TEXT + f"most {most};", self.ENTRIES, self.LOOK, [], ("barred", "most", 2))
        for most in (2, 3, 4294967295):
            self.check(self.TEXT + f"most {most};", self.ENTRIES, self.LOOK, self.FOUND, make_net(0, 9))

    def test_none_may_be_let(self):
        self.check(N + B + "most 0;", self.ENTRIES, self.LOOK, [], SETTLED)

    def test_removed_names_count(self):
        self.check("most 1;", self.ENTRIES, self.LOOK, [], ("barred", "most", 2))
        self.check("most 2;", self.ENTRIES, self.LOOK, [("let", "b"), ("let", "n")], ("take", MARK, 2, 1))

    def test_names_that_are_let_twice_count_twice(self):
        text = self.TEXT + "adopt 7 as n; adopt 8 as b;"
        look = look_of(net(1), box(2), net(7, 8), box(8, 7))
        self.check(text + "most 3;", self.ENTRIES, look, [], ("barred", "most", 4))
        adopted = [("adopt", "b", 8, 50), ("adopt", "n", 7, 50)]
        found = self.FOUND[:2] + adopted + self.FOUND
        self.check(text + "most 4;", self.ENTRIES, look, found, make_net(0, 9))

    def test_lets_of_the_run_before_this_step(self):
        entries = [("run", 1), ("adopt", "x", 9, 2), ("let", "x"), ("gone", 9), *journal_of(n=1, b=2)[:-1]]
        self.check(self.TEXT + "most 2;", entries, self.LOOK, [], ("barred", "most", 3))
        self.check(self.TEXT + "most 3;", entries, self.LOOK, self.FOUND, make_net(0, 9))
        # Those of an earlier run do not count.
        mark = (5, 2)
        look = look_of(net(1), box(2), fence=2)
        self.check(self.TEXT + "most 2;", entries + [("run", 2)], look, self.FOUND, make_net(0, 9, mark=mark))
        self.check(self.TEXT + "most 1;", entries + [("run", 2)], look, [], ("barred", "most", 2))

    def test_lets_of_the_run_count_without_new_ones(self):
        entries = [("run", 1), ("adopt", "x", 9, 2), ("let", "x"), ("adopt", "n", 1, 4)]
        self.check(N + "most 1;", entries, look_of(net(1)), [("gone", 9)], SETTLED)
        self.check(N + "most 0;", entries, look_of(net(1)), [("gone", 9)], ("barred", "most", 1))


if __name__ == "__main__":
    unittest.main()
