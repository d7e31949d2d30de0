"""Point 10: why calls and deeds of others are refused, and which reason counts."""

import unittest

from tests.worlds import MARK, OLD, WorldCase, box, net

NEW = (5, 2)


class Makes(WorldCase):
    def make(self, kind, values, mark=MARK, token=NEW):
        return ("make", mark, token, kind, values)

    def refused_both(self, why, *things):
        """Makes that must be refused, as calls and as deeds of others."""
        for kind, values in things:
            self.refused(why, self.make(kind, values))
            before = self.standing()
            self.assertEqual(self.outside.make(kind, values), ("refused", why), values)
            self.assertEqual(self.standing(), before)

    def test_old(self):
        self.refused("old", self.make("dot", (), OLD), self.make("dot", (), (5, 0)), self.make("dot", (), (5, -3)))
        self.done(("fence", (5, 4294967295)))
        self.refused("old", self.make("dot", (), (5, 4294967294)))

    def test_form(self):
        self.refused_both(
            "form",
            ("nothing", ()),
            ("", ()),
            ("Dot", ()),
            ("dot", (("x", 1),)),
            ("net", ()),
            ("net", net(30)[:3]),
            ("net", net(30)[1:]),
            ("net", net(30) + (("zzz", None),)),
            ("net", net(30) + net(30)[3:]),
            ("net", tuple(reversed(net(30)))),
            ("net", (net(30)[1], net(30)[0]) + net(30)[2:]),
            ("net", net(30)[:3] + (("Zone", 0),)),
            ("net", net(None)),
            ("net", net(30, None)),
            ("net", net(-1)),
            ("net", net(4294967296)),
            ("net", net(30, 4294967296)),
            ("net", net(30, 0, -1)),
            ("net", net(30, 0, None, 4294967296)),
            ("box", box(None)),
            ("box", box(1, None)),
            ("box", net(30)),
        )

    def test_need(self):
        self.refused_both(
            "need",
            ("box", box(0)),
            ("box", box(3)),
            ("box", box(5)),
            ("box", box(-1)),
            ("box", box(4294967297)),
            ("box", box(1, up=1)),
            ("box", box(1, base=4)),
            ("box", box(1, under=9)),
            ("box", box(1, under=2)),
        )
        self.done(("make", MARK, NEW, "net", net(30)))
        self.done(("take", MARK, 5, 1))
        self.refused("need", self.make("box", box(5), token=(5, 3)))

    def test_new_thing_cannot_refer_to_itself(self):
        self.refused_both("need", ("box", box(1, up=5)), ("box", box(1, under=5)))

    def test_taken(self):
        self.refused_both(
            "taken",
            ("net", net(10)),
            ("net", net(20)),
            ("net", net(30, tag=70)),
            ("net", net(10, tag=70)),
            ("box", box(1, port=80)),
        )

    def test_two_reasons(self):
        self.refused(
            "old",
            self.make("dot", (), OLD, (5, 0)),
            self.make("nothing", (), OLD),
            self.make("box", box(3), OLD),
            self.make("net", net(10), OLD),
            self.make("box", box(3, None, 80), OLD, (5, 0)),
        )
        for values in (box(1), box(None), box(3), box(1, port=80), box(3, None, 80), ()):
            self.done(self.make("box", values, token=(5, 0)), False)
        self.refused_both(
            "form",
            ("box", box(3, None)),
            ("box", box(None, up=1)),
            ("box", box(1, -1, up=2)),
            ("box", box(1, None, 80)),
            ("box", box(None, port=80)),
            ("box", box(9, None, 80)),
            ("net", net(10, -1)),
            ("net", net(None, 0, 70)),
            ("net", net(10, 0, 70)[:3]),
            ("box", box(3, port=80)[:5]),
        )
        self.refused_both(
            "need",
            ("box", box(3, 0, 80)),
            ("box", box(1, 0, 80, 1)),
            ("box", box(1, 0, 80, under=5)),
        )


class Changes(WorldCase):
    def refused_both(self, why, *rows):
        """Changes that must be refused, as calls and as deeds of others."""
        for number, field, value in rows:
            self.refused(why, ("change", MARK, number, 1, field, value))
            before = self.standing()
            self.assertEqual(self.outside.change(number, field, value), ("refused", why), (number, field, value))
            self.assertEqual(self.standing(), before)

    def test_old(self):
        self.refused("old", ("change", OLD, 3, 1, "size", 5), ("change", (5, 0), 3, 1, "size", 5))

    def test_gone(self):
        self.refused_both("gone", (0, "size", 5), (5, "size", 5), (-1, "size", 5), (1007, "size", 5))
        self.done(("take", MARK, 4, 1))
        self.refused_both("gone", (4, "size", 5))

    def test_stale(self):
        self.refused("stale", *[("change", MARK, 3, version, "size", 5) for version in (0, 2, -1, 4294967297)])
        self.done(("change", MARK, 3, 1, "size", 5))
        self.done(("change", MARK, 3, 2, "size", 6))
        self.refused("stale", *[("change", MARK, 3, version, "size", 5) for version in (0, 1, 2, 4)])

    def test_form(self):
        self.refused_both(
            "form",
            (3, "nothing", 5),
            (3, "nothing", None),
            (3, "", 5),
            (3, "code", 5),
            (3, "Size", 5),
            (1, "zone", 5),
            (1, "zone", 0),
            (1, "zone", None),
            (1, "tag", 71),
            (1, "tag", 70),
            (1, "tag", None),
            (4, "base", 1),
            (4, "base", None),
            (4, "under", 3),
            (3, "size", None),
            (3, "size", -1),
            (3, "size", 4294967296),
            (3, "port", -1),
            (3, "port", 4294967296),
            (3, "at", None),
            (1, "code", None),
            (1, "note", 4294967296),
        )
        self.done(("make", MARK, NEW, "dot", ()))
        self.refused_both("form", (5, "size", 5))

    def test_need(self):
        self.refused_both(
            "need",
            (3, "at", 0),
            (3, "at", 3),
            (3, "at", 4),
            (3, "at", 5),
            (3, "at", -1),
            (3, "at", 4294967297),
            (3, "up", 1),
            (3, "up", 9),
        )
        self.done(("take", MARK, 4, 1))
        self.refused_both("need", (3, "up", 4))

    def test_taken(self):
        self.refused_both("taken", (1, "code", 20), (2, "code", 10), (4, "port", 80))

    def test_two_reasons(self):
        self.refused(
            "old",
            ("change", OLD, 9, 1, "size", 5),
            ("change", OLD, 3, 2, "size", 5),
            ("change", OLD, 3, 1, "nothing", 5),
            ("change", OLD, 3, 1, "at", 9),
            ("change", OLD, 1, 1, "code", 20),
        )
        self.refused(
            "gone",
            ("change", MARK, 9, 0, "size", 5),
            ("change", MARK, 9, 1, "nothing", None),
            ("change", MARK, 9, 2, "at", 9),
        )
        self.refused(
            "stale",
            ("change", MARK, 3, 2, "nothing", 5),
            ("change", MARK, 3, 2, "size", None),
            ("change", MARK, 1, 2, "zone", 5),
            ("change", MARK, 3, 2, "at", 9),
            ("change", MARK, 1, 2, "code", 20),
        )
        self.refused_both("form", (4, "base", 9), (4, "base", 3), (4, "under", 1), (2, "tag", 70), (3, "size", -80))


class Takes(WorldCase):
    def test_old(self):
        self.refused("old", ("take", OLD, 4, 1), ("take", (5, 0), 4, 1))

    def test_gone(self):
        self.refused("gone", ("take", MARK, 5, 1), ("take", MARK, 0, 1), ("take", MARK, -1, 1))
        self.done(("take", MARK, 4, 1))
        before = self.standing()
        for number in (4, 5, 0):
            self.refused("gone", ("take", MARK, number, 1))
            self.assertEqual(self.outside.take(number), ("refused", "gone"))
        self.assertEqual(self.standing(), before)

    def test_stale(self):
        self.refused("stale", ("take", MARK, 4, 2), ("take", MARK, 4, 0))
        self.assertEqual(self.outside.change(4, "size", 5), ("done",))
        self.refused("stale", ("take", MARK, 4, 1), ("take", MARK, 4, 3))
        self.done(("take", MARK, 4, 2))

    def test_needed(self):
        self.done(("make", MARK, NEW, "net", net(30)))
        self.done(("make", MARK, (5, 3), "net", net(40)))
        self.done(("make", MARK, (5, 4), "box", box(1, base=5, under=4)))
        before = self.standing()
        for number in (1, 2, 3, 4, 5):
            self.refused("needed", ("take", MARK, number, 1))
            self.assertEqual(self.outside.take(number), ("refused", "needed"))
        self.assertEqual(self.standing(), before)
        self.done(("take", MARK, 6, 1))
        self.done(("take", MARK, 7, 1))
        self.done(("take", MARK, 5, 1))

    def test_needed_by_itself_alone(self):
        self.done(("change", MARK, 4, 1, "up", 4))
        self.refused("needed", ("take", MARK, 4, 2))
        self.assertEqual(self.outside.take(4), ("refused", "needed"))
        self.done(("take", MARK, 3, 1))

    def test_two_reasons(self):
        self.refused("old", ("take", OLD, 9, 1), ("take", OLD, 4, 2), ("take", OLD, 1, 1))
        self.refused("gone", ("take", MARK, 9, 0))
        self.refused("stale", ("take", MARK, 1, 2))


if __name__ == "__main__":
    unittest.main()
