"""Looks and journals that are written down by hand, for the tests of the decider."""

import unittest

from settledland.decider import decide
from settledland.lands import read_land

OWNER = 5
MARK = (5, 1)


def thing(id_of_thing, kind, token=(), version=1, **values):
    """Returns a living thing; fields of the name at_ are written so because of Python's words."""
    pairs = tuple(sorted((field.rstrip("_"), value) for field, value in values.items()))
    return (id_of_thing, kind, pairs, version, 1000 + 7 * id_of_thing, token)


def made(id_of_thing, kind, number, **values):
    """Returns a living thing that the owner made with the token of this number."""
    return thing(id_of_thing, kind, (OWNER, number), **values)


def look_of(*things, moment=50, fence=1, spent=()):
    fences = ((OWNER, fence),) if fence else ()
    return (moment, fences, tuple(things), tuple(spent))


def journal_of(run=1, moment=40, leftovers=(), **bound):
    """Returns a journal with this run, in which the names are bound to the ids, and these
    leftovers are there; names with an end _x stand for those with an end .x."""
    entries = []
    for number in leftovers:
        entries.extend([("adopt", "left", number, moment), ("let", "left")])
    for name, number in bound.items():
        entries.append(("adopt", name.replace("_", "."), number, moment))
    return entries + [("run", run)]


class DecidingCase(unittest.TestCase):
    """Tests that decide for the owner 5, whose run is mostly 1."""

    kinds = ""

    def land(self, text):
        return read_land(self.kinds + text)

    def told(self, text, entries, look):
        return decide(self.land(text), OWNER, entries, look)

    def check(self, text, entries, look, found, result):
        self.assertEqual(self.told(text, entries, look), (tuple(found), result))
