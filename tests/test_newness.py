"""Points 13 and 14: wants, the lets with their reasons, and what must be made."""

import random
import unittest

from itertools import combinations

from settledland.journal import State
from settledland.newness import lets, to_make

from tests.oracle import Oracle
from tests.scenes import DecidingCase, journal_of, look_of, thing
from tests.stories import Story

KINDS = """
    kind net { zone: number fixed; note: number empty; }
    kind box {
        at: ref net fixed; extra: ref box fixed empty; level: number fixed empty; size: number empty; up: ref box empty;
    }
"""


def net(number, zone=3, note=None):
    return thing(number, "net", zone=zone, note=note)


def box(number, at=1, extra=None, level=None, size=None, up=None):
    return thing(number, "box", at=at, extra=extra, level=level, size=size, up=up)


class NewnessCase(DecidingCase):
    kinds = KINDS

    def lets(self, text, things, **bound):
        return lets(self.land(text), State(journal_of(**bound)), look_of(*things))

    def to_make(self, text, things, **bound):
        return to_make(self.land(text), State(journal_of(**bound)), look_of(*things))


class Wants(NewnessCase):
    N = "thing n: net { zone = 3; } "

    def check_level(self, value, *, same, other):
        """Checks what a fixed field must have not to be let."""
        text = self.N + "thing b: box { at = n; level = " + value + "; } "
        for level in same:
            self.assertEqual(self.lets(text, (net(1), box(2, level=level)), n=1, b=2), {}, level)
        for level in other:
            found = self.lets(text, (net(1), box(2, level=level)), n=1, b=2)
            self.assertEqual(found, {"b": ("fixed", "level")}, level)

    def test_numbers(self):
        self.check_level("7", same=[7], other=[0, 8, None])
        self.check_level("0", same=[0], other=[1, None])
        self.check_level("4294967295", same=[4294967295], other=[0, None])

    def test_none(self):
        self.check_level("none", same=[None], other=[0, 7])

    def test_field_without_a_value(self):
        text = self.N + "thing b: box { at = n; }"
        self.assertEqual(self.lets(text, (net(1), box(2)), n=1, b=2), {})
        self.assertEqual(self.lets(text, (net(1), box(2, level=0)), n=1, b=2), {"b": ("fixed", "level")})

    def test_told_numbers(self):
        self.check_level("told n", same=[1007], other=[1, 7, 1000, 1014, None])
        self.check_level("told n + 5", same=[1012], other=[1007, 1017])

    def test_sums_of_told_numbers_begin_again(self):
        self.check_level("told n + 4294966288", same=[4294967295], other=[4294966288])
        self.check_level("told n + 4294966289", same=[0], other=[4294967296, 1007])
        self.check_level("told n + 4294967295", same=[1006], other=[4294968302, 1007])

    def test_names(self):
        text = self.N + "thing m: net { zone = 4; } thing b: box { at = m; }"
        things = (net(1), net(2, 4), box(3, 1), box(4, 2))
        self.assertEqual(self.lets(text, things, n=1, m=2, b=4), {})
        self.assertEqual(self.lets(text, things, n=1, m=2, b=3), {"b": ("fixed", "at")})

    def test_index(self):
        text = self.N + "thing b * 2: box { at = n; level = index + 4294967295; }"
        things = (net(1), box(2, level=4294967295), box(3, level=0))
        self.assertEqual(self.lets(text, things, n=1, b_0=2, b_1=3), {})
        reasons = {"b.0": ("fixed", "level"), "b.1": ("fixed", "level")}
        self.assertEqual(self.lets(text, things, n=1, b_0=3, b_1=2), reasons)

    def test_unknown_wants(self):
        text = self.N + "thing b: box { at = n; } thing c: box { at = n; level = told b; }"
        things = (net(1), box(2), box(3, level=1014))
        self.assertEqual(self.lets(text, things, n=1, b=2, c=3), {})
        self.assertEqual(self.lets(text, things, n=1, c=3), {"c": ("through", "level", "b")})
        reasons = {"b": ("through", "at", "n"), "c": ("through", "at", "n")}
        self.assertEqual(self.lets(text, things, b=2, c=3), reasons)

    def test_wants_of_fields_that_are_not_fixed_do_not_count(self):
        text = self.N + "thing b: box { at = n; size = 4; up = c; } thing c: box { at = n; size = told n; }"
        self.assertEqual(self.lets(text, (net(1, 3, 9), box(2, size=9, up=2)), n=1, b=2), {})


class Reasons(NewnessCase):
    N = "thing n: net { zone = 3; } "

    def test_nothing_is_bound(self):
        self.assertEqual(self.lets(self.N, ()), {})
        self.assertEqual(self.lets("", ()), {})

    def test_removed(self):
        self.assertEqual(self.lets(self.N, (net(1), net(2)), n=1, m=2), {"m": ("removed",)})
        self.assertEqual(self.lets("", (net(1),), n=1), {"n": ("removed",)})

    def test_kind(self):
        text = self.N + "thing b: box { at = n; }"
        self.assertEqual(self.lets(text, (net(1), net(2)), n=1, b=2), {"b": ("kind",)})
        reasons = {"b": ("through", "at", "n"), "n": ("kind",)}
        self.assertEqual(self.lets(text, (net(1), box(2), box(3)), n=2, b=3), reasons)

    def test_removed_comes_ahead_of_all_others(self):
        self.assertEqual(self.lets(self.N, (net(1), box(2)), n=1, b=2), {"b": ("removed",)})

    def test_kind_comes_ahead_of_fields(self):
        text = self.N + "thing m: net { zone = 9; } thing b: box { at = m; }"
        self.assertEqual(self.lets(text, (net(1), net(2)), n=1, b=2), {"b": ("kind",)})

    def test_first_field_counts(self):
        text = self.N + "thing m: net { zone = 9; } thing c: box { at = n; } "
        for values, level, reason in (
            ("at = n; extra = c; level = 1;", 1, ("through", "extra", "c")),
            ("at = n; extra = c; level = 1;", 2, ("through", "extra", "c")),
            ("at = n; level = told c;", None, ("fixed", "extra")),
            ("at = m; extra = c; level = 1;", 2, ("through", "at", "m")),
            ("at = m; level = told m;", None, ("through", "at", "m")),
        ):
            things = (net(1), box(2, extra=2, level=level))
            self.assertEqual(self.lets(text + "thing b: box {" + values + "}", things, n=1, b=2), {"b": reason})

    def test_fixed_comes_ahead_of_through_of_a_later_field(self):
        text = self.N + "thing m: net { zone = 9; } thing b: box { at = n; extra = none; level = told m; }"
        self.assertEqual(self.lets(text, (net(1), box(2, extra=2)), n=1, b=2), {"b": ("fixed", "extra")})

    def test_through_that_is_found_late_counts_first(self):
        # The level of a is wrong at once; that z is let is found behind it.
        text = "thing n: net { zone = 9; } thing z: box { at = n; } thing a: box { at = n; extra = z; level = 1; } "
        things = (net(1), box(2), box(3, extra=2, level=5))
        reasons = {"a": ("through", "at", "n"), "n": ("fixed", "zone"), "z": ("through", "at", "n")}
        self.assertEqual(self.lets(text, things, n=1, z=2, a=3), reasons)

    def test_chain_through_names_and_told_values(self):
        text = """
            thing n: net { zone = 4; } thing m: net { zone = 3; } thing e: box { at = n; }
            thing d: box { at = m; level = told e; } thing c: box { at = m; extra = d; }
            thing b: box { at = m; level = told c + 2; } thing a: box { at = m; size = told b; up = b; }
        """
        things = (
            net(1), net(2), box(3, 1), box(4, 2, level=1021), box(5, 2, 4), box(6, 2, level=1037), box(7, 2, up=6)
        )
        bound = {"n": 1, "m": 2, "e": 3, "d": 4, "c": 5, "b": 6, "a": 7}
        self.assertEqual(
            self.lets(text, things, **bound),
            {
                "b": ("through", "level", "c"),
                "c": ("through", "extra", "d"),
                "d": ("through", "level", "e"),
                "e": ("through", "at", "n"),
                "n": ("fixed", "zone"),
            },
        )
        self.assertEqual(self.lets(text.replace("zone = 4", "zone = 3"), things, **bound), {})
        self.assertEqual(self.to_make(text, things, **bound), ["b", "c", "d", "e", "n"])

    def test_circles_of_things_do_not_hold_one_another_up(self):
        # The things outside refer to one another in a circle; so does no want.
        text = "thing n: net { zone = 3; } thing a: box { at = n; up = b; } thing b: box { at = n; }"
        things = (net(1), box(2, up=3), box(3, up=2))
        self.assertEqual(self.lets(text, things, n=1, a=2, b=3), {})

    def test_circles_of_wants_do_not_hold_one_another_up(self):
        # No text has a circle; the lets would be the least set all the same.
        land = self.land("thing n: net { zone = 3; } thing a: box { at = n; } thing b: box { at = n; extra = a; }")
        land.things["a"][1]["extra"] = ("name", "b")
        state, look = State(journal_of(n=1, a=2, b=3)), look_of(net(1), box(2, extra=3), box(3, extra=2))
        self.assertEqual(lets(land, state, look), {})
        land.things["b"][1]["level"] = ("number", 1)
        reasons = {"a": ("through", "extra", "b"), "b": ("through", "extra", "a")}
        self.assertEqual(lets(land, state, look), reasons)

    def test_names_in_ascending_order(self):
        things = tuple(net(number) for number in range(1, 5))
        found = self.lets("", things, d=1, a=2, c=3, b=4)
        self.assertEqual(sorted(found), ["a", "b", "c", "d"])


class LeastSet(unittest.TestCase):
    def test_drawn_lands(self):
        seen = set()
        for seed in range(60):
            story = Story(seed, bars=0)
            owner = story.owners[0]
            for _ in range(50):
                story.event()
                oracle = Oracle(owner.land, owner.number, owner.journal, story.look())
                oracle.facts()
                state = oracle.state
                found = lets(owner.land, state, story.look())
                self.check_least(oracle, state, found)
                self.assertEqual(
                    to_make(owner.land, state, story.look()),
                    sorted((set(owner.land.things) - set(state.bound)) | (set(owner.land.things) & set(found))),
                )
                seen.add((len(found), *sorted({reason[0] for reason in found.values()})))
        reasons = {word for _, *words in seen for word in words}
        self.assertEqual(reasons, {"removed", "kind", "through", "fixed"})
        self.assertGreater(max(seen)[0], 3)

    def check_least(self, oracle, state, found):
        for name in state.bound:
            self.assertEqual(oracle.reason(name, state.bound, list(found)), found.get(name), name)
        # Without any of them there is one left whose reason is not met.
        for many in range(len(found) if len(found) < 7 else 1):
            for names in combinations(sorted(found), many):
                left_out = [name for name in found if name not in names]
                self.assertTrue(
                    any(oracle.reason(name, state.bound, names) is not None for name in left_out), (names, found)
                )


class ToMake(NewnessCase):
    def test_unbound_names_and_lets(self):
        text = "thing n: net { zone = 3; } thing m: net { zone = 4; } thing b: box { at = n; } thing c: box { at = m; }"
        self.assertEqual(self.to_make(text, ()), ["b", "c", "m", "n"])
        things = (net(1), net(2), box(3, 1), box(4, 2), net(5))
        self.assertEqual(self.to_make(text, things, n=1, m=2, b=3, c=4, x=5), ["c", "m"])
        self.assertEqual(self.to_make(text, things, n=1, b=3), ["c", "m"])
        self.assertEqual(self.to_make(text.replace("4", "3"), things, n=1, m=2, b=3, c=4), [])
        self.assertEqual(self.to_make("", things, n=1, m=2), [])

    def test_begun_names_are_not_bound(self):
        land = self.land("thing n: net { zone = 3; } thing m: net { zone = 4; }")
        state = State([("run", 1), ("begin", "n", 0), ("begin", "m", 1), ("bind", "m", 1, 3)])
        self.assertEqual(to_make(land, state, look_of(net(1, 4))), ["n"])

    def test_least_number_of_made_things(self):
        # A fixed value never changes: whoever reaches the land makes these at least.
        dice = random.Random(4)
        for _ in range(30):
            story = Story(dice.randrange(10000), bars=0)
            for _ in range(40):
                story.event()
            owner = story.owners[0]
            state = State(owner.journal)
            look = story.look()
            if all(number in [row[0] for row in look[2]] for number in state.bound.values()):
                found = to_make(owner.land, state, look)
                self.assertEqual(found, sorted(set(found)))
                self.assertLessEqual(set(owner.land.things) - set(state.bound), set(found))


if __name__ == "__main__":
    unittest.main()
