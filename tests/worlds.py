"""The kinds of the tests of outsides, and outsides to begin with."""

import unittest

from settledland.errors import InvalidCall
from settledland.lands import read_land
from settledland.outside import Outside

KINDS = read_land("""
    kind net { code: number single; tag: number single fixed empty; zone: number fixed; note: number empty; }
    kind box {
        at: ref net; base: ref net fixed empty; port: number empty single; size: number; up: ref box empty;
        under: ref box fixed empty;
    }
    kind dot { }
    kind jet { code: number single; }
""").kinds

# Marks of the owner 5, whose fence is 2: one that goes, and one that is old.
MARK = (5, 2)
OLD = (5, 1)


def net(code, zone=0, tag=None, note=None):
    """Returns the values of a net."""
    return (("code", code), ("note", note), ("tag", tag), ("zone", zone))


def box(at, size=0, port=None, up=None, base=None, under=None):
    """Returns the values of a box."""
    return (("at", at), ("base", base), ("port", port), ("size", size), ("under", under), ("up", up))


class WorldCase(unittest.TestCase):
    """Tests of an outside with the fence 2 of the owner 5, the nets 1 and 2 (of a token,
    and of others), and the boxes 3 (at the net 1) and 4 (at the net 2, upon the box 3)."""

    def setUp(self):
        self.outside = Outside(KINDS)
        self.done(("fence", (5, 2)))
        self.done(("make", MARK, (5, 0), "net", net(10, 0, 70)))
        self.assertEqual(self.outside.make("net", net(20)), ("done",))
        self.done(("make", MARK, (5, 1), "box", box(1, 0, 80)))
        self.assertEqual(self.outside.make("box", box(2, 1, None, 3)), ("done",))

    def standing(self):
        return (self.outside.look(), self.outside.calls())

    def thing(self, id_of_thing):
        """Returns the living thing with this id, or None."""
        _, _, things, _ = self.outside.look()
        return ([thing for thing in things if thing[0] == id_of_thing] or [None])[0]

    def done(self, call, changes=True):
        """Does a call that must be done, and must change something or nothing."""
        (moment, _, things, _), calls = self.standing()
        self.assertEqual(self.outside.do(call), ("done",), call)
        (moment_now, _, things_now, _), calls_now = self.standing()
        self.assertEqual((moment_now - moment, calls_now - calls), (changes, changes), call)
        if not changes:
            self.assertEqual(things_now, things, call)

    def refused(self, why, *calls):
        """Does calls that must be refused, and change nothing."""
        for call in calls:
            before = self.standing()
            self.assertEqual(self.outside.do(call), ("refused", why), call)
            self.assertEqual(self.standing(), before, call)

    def invalid(self, *calls):
        """Does calls of another form, which change nothing."""
        for call in calls:
            before = self.standing()
            with self.assertRaises(InvalidCall, msg=call):
                self.outside.do(call)
            self.assertEqual(self.standing(), before, call)
