"""Point 16: the papers of stuck results, each sort of line with each why."""

import unittest

from tests.scenes import DecidingCase, journal_of, look_of
from tests.test_calls_to_make import KINDS, box, key, net


class PaperCase(DecidingCase):
    kinds = KINDS

    def stuck(self, text, things, *lines, leftovers=(), found=(), **bound):
        entries = journal_of(leftovers=leftovers, **bound)
        self.check(text, entries, look_of(*things), found, ("stuck", lines))


class Lines(PaperCase):
    A = "thing a: key { code = 1; } "

    def test_change_that_is_borne(self):
        things = (key(1), key(2, 1), key(3, 5))
        self.stuck(self.A, things, ("change", "a", "code", ("borne", 2)), a=1)
        # A value is borne in its own field and kind alone.
        text = "thing a: net { code = 1; size = 1; zone = 1; }"
        self.stuck(text, (net(1, None, 1, 1), key(2, 1), net(3, 1)), ("change", "a", "code", ("borne", 3)), a=1)

    def test_change_that_waits(self):
        text = "thing a: key { code = told c; } thing c: key { tag = 1; } "
        make = ("make", "c", ("borne", "tag", 2))
        self.stuck(text, (key(1), key(2, None, 1)), ("change", "a", "code", ("wait", "c")), make, a=1)
        text = "thing a: box { port = 1; up = c; } thing c: box { port = 2; }"
        make = ("make", "c", ("borne", "port", 2))
        self.stuck(text, (box(1, port=1), box(2, port=2)), ("change", "a", "up", ("wait", "c")), make, a=1)
        # Also if the field has a value that would be borne.
        self.stuck(text, (box(1, port=1, up=2), box(2, port=2)), ("change", "a", "up", ("wait", "c")), make, a=1)

    def test_make_that_is_borne(self):
        self.stuck(self.A, (key(4, 1),), ("make", "a", ("borne", "code", 4)))
        self.stuck("thing a: key { tag = 1; }", (key(4, 2, 1),), ("make", "a", ("borne", "tag", 4)))

    def test_make_that_waits(self):
        text = "thing b: box { port = 1; hold = c; } thing c: box { port = 2; } thing d: box { port = told c; }"
        self.stuck(
            text,
            (box(7, port=2),),
            ("make", "b", ("wait", "hold", "c")),
            ("make", "c", ("borne", "port", 7)),
            ("make", "d", ("wait", "port", "c")),
        )

    def test_make_tells_the_first_field_alone(self):
        text = "thing a: key { code = 1; tag = told c; } thing c: key { tag = 1; code = 2; }"
        things = (key(1, 1), key(2, 2), key(3, None, 1))
        self.stuck(text, things, ("make", "a", ("borne", "code", 1)), ("make", "c", ("borne", "code", 2)))
        things = (key(1, 4), key(2, 2), key(3, None, 1))
        self.stuck(text, things, ("make", "a", ("wait", "tag", "c")), ("make", "c", ("borne", "code", 2)))
        self.stuck(text, things[2:], ("make", "a", ("wait", "tag", "c")), ("make", "c", ("borne", "tag", 3)))

    def test_names_that_are_begun_are_lines_of_makes(self):
        entries = [("run", 1), ("begin", "a", 0)]
        self.check(self.A, entries, look_of(key(4, 1)), [], ("stuck", (("make", "a", ("borne", "code", 4)),)))

    def test_take_that_is_needed(self):
        self.stuck("", (net(1), box(2, at=1)), ("take", 1, ("needed", 2)), leftovers=(1,))
        self.stuck("", (box(3, hold=3, up=None),), ("take", 3, ("needed", 3)), leftovers=(3,))

    def test_least_thing_that_needs(self):
        things = (net(1), box(2), box(3, at=1, port=3), box(4, at=1, port=4))
        self.stuck("", things, ("take", 1, ("needed", 3)), leftovers=(1,))
        # A later thing that refers by an earlier field is not the least.
        things = (box(3, port=1, hold=9), box(5, at=None, port=2, up=9), box(9, port=3))
        self.stuck("", things, ("take", 9, ("needed", 3)), leftovers=(9,))

    def test_least_other_thing_that_bears(self):
        # No good look has two bearers: these are those of the interface's words alone.
        things = (key(1), key(2, 1), key(3, 1))
        self.stuck(self.A, things, ("change", "a", "code", ("borne", 2)), a=1)
        self.stuck(self.A, things, ("make", "a", ("borne", "code", 2)))


class Order(PaperCase):
    def test_changes_makes_takes(self):
        text = """
            thing b: key { code = 1; } thing a: net { code = 2; zone = 3; size = told m; }
            thing m: key { tag = 9; } thing d: key { tag = told m; } thing e: box { port = 7; at = a; up = c; }
            thing c: box { port = 8; }
        """
        things = (
            net(1), key(2), box(3, port=7, at=1), key(4, 1, 9), net(5, 2), net(6), box(7, port=6, at=6),
            box(8, port=8, at=5),
        )
        self.stuck(
            text,
            things,
            ("change", "a", "code", ("borne", 5)),
            ("change", "a", "size", ("wait", "m")),
            ("change", "b", "code", ("borne", 4)),
            ("change", "e", "up", ("wait", "c")),
            ("make", "c", ("borne", "port", 8)),
            ("make", "d", ("wait", "tag", "m")),
            ("make", "m", ("borne", "tag", 4)),
            ("take", 6, ("needed", 7)),
            e=3,
            b=2,
            a=1,
            leftovers=(6,),
        )

    def test_takes_in_the_order_of_ids(self):
        things = (net(1), net(2), box(3, port=1, at=1), box(4, port=2, at=2))
        lines = (("take", 1, ("needed", 3)), ("take", 2, ("needed", 4)))
        self.stuck("", things, *lines, leftovers=(2, 1))

    def test_lines_behind_what_was_found(self):
        # The name is let, and its thing stays since others need it.
        things = (net(1), box(3, port=1, at=1))
        self.stuck("", things, ("take", 1, ("needed", 3)), n=1, found=[("let", "n")])

    def test_things_without_a_cause_to_wait_have_no_line(self):
        text = "thing n: net { size = 4; zone = 3; } thing a: key { code = 1; }"
        self.stuck(text, (net(1), key(2, 1)), ("make", "a", ("borne", "code", 2)), n=1)


if __name__ == "__main__":
    unittest.main()
