"""Point 25: changes of texts, against calm times of the first land and then of the second."""

import collections
import unittest

from settledland.calm import calm
from settledland.journal import State, next_run
from settledland.lands import read_land
from settledland.looking import change_of_texts
from settledland.outside import Outside

from tests.stories import Drawer

KINDS = """
    kind net { zone: number fixed; size: number; note: number empty; }
    kind box {
        at: ref net fixed; hold: ref box fixed empty; level: number fixed empty; port: number empty; up: ref net empty;
    }
"""
N = "thing n: net { zone = 3; size = 4; } "
M = "thing m: net { zone = 5; size = 6; } "


class ChangeCase(unittest.TestCase):
    def check(self, first, second, **words):
        told = change_of_texts(read_land(KINDS + first), read_land(KINDS + second))
        self.assertEqual(told, {name.replace("_", "."): word for name, word in words.items()})


class Words(ChangeCase):
    def test_same(self):
        self.check("", "")
        self.check(N, N, n="same")
        b = "thing b: box { at = n; level = told n + 3; port = told n; up = n; } "
        self.check(N + b, b + N, n="same", b="same")
        second = N + "thing b.0: box { at = n; level = 0; }"
        self.check(N + "thing b * 2: box { at = n; level = index; }", second, n="same", b_0="same", b_1="taken")

    def test_made_and_taken(self):
        self.check("", N, n="made")
        self.check(N, "", n="taken")
        self.check(N, M, n="taken", m="made")

    def test_new_by_a_fixed_value(self):
        self.check(N, N.replace("3", "4"), n="new")
        b = N + "thing b: box { at = n; level = 4; } "
        self.check(b, b.replace("level = 4", "level = 5"), n="same", b="new")
        self.check(b, b.replace("level = 4;", ""), n="same", b="new")
        self.check(b.replace("level = 4;", ""), b, n="same", b="new")
        self.check(b.replace("level = 4;", ""), b.replace("level = 4", "level = none"), n="same", b="same")

    def test_new_by_another_kind(self):
        self.check(N + M, N + "thing m: box { at = n; }", n="same", m="new")

    def test_new_by_another_thing(self):
        self.check(N + M + "thing b: box { at = n; }", N + M + "thing b: box { at = m; }", n="same", m="same", b="new")

    def test_new_through_a_chain(self):
        text = N + M + """
            thing c: box { at = n; } thing b: box { at = m; hold = c; } thing a: box { at = m; level = told b; }
            thing d: box { at = m; port = told b; }
        """
        words = {"n": "new", "c": "new", "b": "new", "a": "new", "m": "same", "d": "changed"}
        self.check(text, text.replace("zone = 3", "zone = 9"), **words)

    def test_new_through_a_thing_that_is_made(self):
        self.check(N + "thing b: box { at = n; }", M + "thing b: box { at = m; }", n="taken", m="made", b="new")

    def test_changed_by_numbers_and_none(self):
        self.check(N, N.replace("4", "5"), n="changed")
        self.check(N, N.replace("size = 4;", "size = 4; note = 0;"), n="changed")
        self.check(N.replace("size = 4;", "size = 4; note = 0;"), N, n="changed")

    def test_changed_by_things(self):
        b = N + M + "thing b: box { at = n; up = n; } "
        self.check(b, b.replace("up = n", "up = m"), n="same", m="same", b="changed")
        self.check(b, b.replace("up = n;", ""), n="same", m="same", b="changed")
        self.check(b.replace("up = n;", ""), b, n="same", m="same", b="changed")
        # The thing to which it refers is made anew, made, or taken.
        c = b.replace("up = n", "up = m")
        self.check(c, c.replace("zone = 5", "zone = 6"), n="same", m="new", b="changed")
        x = N + "thing x: net { zone = 5; size = 6; } thing b: box { at = n; up = x; }"
        self.check(c, x, n="same", m="taken", x="made", b="changed")

    def test_told_values(self):
        b = N + M + "thing b: box { at = n; port = told n + 1; } "
        self.check(b, b.replace("told n + 1", "told n + 2"), n="same", m="same", b="changed")
        self.check(b, b.replace("told n + 1", "told n"), n="same", m="same", b="changed")
        self.check(b, b.replace("told n + 1", "told m + 1"), n="same", m="same", b="changed")
        self.check(b, b.replace("told n + 1", "1008"), n="same", m="same", b="changed")
        self.check(b, b.replace("port = told n + 1;", ""), n="same", m="same", b="changed")
        c = b.replace("port", "level")
        self.check(c, c, n="same", m="same", b="same")
        self.check(c, c.replace("told n + 1", "told n + 2"), n="same", m="same", b="new")
        self.check(c, c.replace("told n + 1", "told m + 1"), n="same", m="same", b="new")
        self.check(c, c.replace("told n + 1", "7"), n="same", m="same", b="new")
        self.check(c.replace("told n + 1", "7"), c, n="same", m="same", b="new")
        # The told number of a thing that is made anew is another one.
        d = N + M + "thing b: box { at = n; port = told m; } "
        self.check(d, d.replace("zone = 5", "zone = 6"), n="same", m="new", b="changed")

    def test_first_reason_that_counts_makes_no_other_word(self):
        text = N + "thing b: box { at = n; level = 3; port = 4; } "
        self.check(text, text.replace("3;", "5;").replace("4;", "6;"), n="new", b="new")


class Moves(ChangeCase):
    B = "thing b: box { at = n; hold = c; level = told c + 1; } thing c: box { at = n; up = n; } "

    def test_moved_names(self):
        second = N + self.B
        for old, new in (("n:", "x:"), ("= n", "= x"), ("c:", "y:"), ("= c", "= y"), ("told c", "told y")):
            second = second.replace(old, new)
        self.check(N + self.B, second + "move n to x; move c to y;", x="same", y="same", b="same")
        self.check(N + self.B, second + "move n to x;", x="same", y="made", c="taken", b="new")
        self.check(N + self.B, second, x="made", y="made", n="taken", c="taken", b="new")

    def test_move_of_a_name_that_is_not_there(self):
        self.check(N, N + "move z to n;", n="same")
        self.check("", N + "move z to n;", n="made")

    def test_move_to_a_name_that_is_there(self):
        self.check(N + M, N + "move m to n;", n="same", m="taken")
        b = "thing b: box { at = m; } "
        self.check(N + M + b, N + b.replace("m", "n") + "move m to n;", n="same", m="taken", b="new")

    def test_moved_and_let(self):
        self.check(M, N + "move m to n;", n="new")
        self.check(M, N.replace("3", "5") + "move m to n;", n="changed")
        b = "thing b: box { at = m; up = m; } "
        second = b.replace("m;", "n;")
        self.check(M + b, N + second + "move m to n;", n="new", b="new")
        self.check(N.replace("n:", "m:") + b, N + second + "move m to n;", n="same", b="same")

    def test_moves_of_the_first_land_do_not_count(self):
        self.check(N + "move z to n;", N, n="same")
        self.check(N + "move z to n;", "thing z: net { zone = 3; size = 4; }", n="taken", z="made")

    def test_other_items_do_not_count(self):
        self.check(N + "adopt 3 as n; keep n; most 0;", N.replace("3", "4") + "adopt 4 as n; keep n; most 0;", n="new")


class Drawn(unittest.TestCase):
    def test_against_calm_times(self):
        seen = collections.Counter()
        for seed in range(700):
            drawer = Drawer(seed, bars=0)
            # With these sums no told number is a number of a text.
            drawer.sums = (0, 1, 2)
            first = drawer.land()
            second = drawer.land(first)
            outside = Outside(first.kinds)
            entries, _, result = calm(first, 5, [("run", 1)], outside)
            if result == ("settled",):
                self.check(first, second, entries, outside, seen)
        for word in ("made", "taken", "new", "changed", "same", "settled", "moved"):
            self.assertGreater(seen[word], 10, word)

    def check(self, first, second, entries, outside, seen):
        words = change_of_texts(first, second)
        before = {thing[0]: thing[2] for thing in outside.look()[2]}
        journal = entries + [next_run(entries)]
        told, calls, result = calm(second, 5, journal, outside)
        moves = {entry[1]: entry[2] for entry in told[len(journal) :] if entry[0] == "move"}
        bound = {moves.get(name, name): number for name, number in State(entries).bound.items()}
        lets = [entry[1] for entry in told[len(journal) :] if entry[0] == "let"]
        self.assertEqual(sorted(words), sorted(set(bound) | set(second.things)))
        self.assertEqual(sorted(lets), sorted(name for name, word in words.items() if word in ("taken", "new")))
        seen.update(words.values())
        seen["moved"] += len(moves)
        if result == ("settled",):
            seen["settled"] += 1
            after = {thing[0]: thing[2] for thing in outside.look()[2]}
            now = State(told).bound
            for name, word in words.items():
                if name not in second.things:
                    expected = "taken"
                elif name not in bound:
                    expected = "made"
                elif now[name] != bound[name]:
                    expected = "new"
                else:
                    expected = "same" if after[now[name]] == before[bound[name]] else "changed"
                self.assertEqual(word, expected, (name, words))


if __name__ == "__main__":
    unittest.main()
