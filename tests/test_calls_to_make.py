"""Point 15, steps 8 and 9: which call is told, each of a to d with its order and its
conditions, and when the land is settled."""

import unittest

from tests.scenes import MARK, OWNER, DecidingCase, journal_of, look_of, made, thing

KINDS = """
    kind net { zone: number fixed; size: number; code: number single empty; }
    kind box { up: ref box empty; at: ref net empty; port: number single; hold: ref box fixed empty; }
    kind key { tag: number single fixed empty; code: number single empty; }
    kind tip { tag: number single fixed empty; note: number empty; }
"""
SETTLED = ("settled",)
N = "thing n: net { zone = 3; size = 4; } "


def net(number, code=None, size=4, zone=3, version=1, token=()):
    return thing(number, "net", token, version, code=code, size=size, zone=zone)


def box(number, at=None, port=0, up=None, hold=None, version=1, token=()):
    return thing(number, "box", token, version, at=at, hold=hold, port=port, up=up)


def key(number, code=None, tag=None, version=1):
    return thing(number, "key", (), version, code=code, tag=tag)


def change(number, field, value, version=1):
    return ("change", MARK, number, version, field, value)


def take(number, version=1):
    return ("take", MARK, number, version)


def make(k, kind, **values):
    return ("make", MARK, (OWNER, k), kind, tuple(sorted(values.items())))


class CallCase(DecidingCase):
    kinds = KINDS

    def next_call(self, text, things, result, leftovers=(), found=(), **bound):
        self.check(text, journal_of(leftovers=leftovers, **bound), look_of(*things), found, result)


class Changes(CallCase):
    def test_change_with_the_version_of_the_look(self):
        self.next_call(N, (net(1, size=9, version=7),), change(1, "size", 4, 7), n=1)

    def test_fixed_fields_are_not_changed(self):
        result = make(0, "net", code=None, size=4, zone=3)
        self.next_call(N, (net(1, zone=9),), result, n=1, found=[("let", "n"), ("begin", "n", 0)])

    def test_in_the_order_of_names_and_fields(self):
        text = "thing b: net { code = 1; size = 2; zone = 3; } thing a: net { code = 4; size = 5; zone = 3; }"
        things = [net(1), net(2)]
        self.next_call(text, things, change(2, "code", 4), b=1, a=2)
        things[1] = net(2, 4)
        self.next_call(text, things, change(2, "size", 5), b=1, a=2)
        things[1] = net(2, 4, 5)
        self.next_call(text, things, change(1, "code", 1), b=1, a=2)
        things[0] = net(1, 1)
        self.next_call(text, things, change(1, "size", 2), b=1, a=2)
        things[0] = net(1, 1, 2)
        self.next_call(text, things, SETTLED, b=1, a=2)

    def test_values_of_all_forms(self):
        text = N + "thing b: box { at = n; port = told n + 4294966290; } "
        things = (net(1), box(2, at=1, port=8))
        self.next_call(text, things, change(2, "port", 1), n=1, b=2)
        self.next_call(text, (net(1), box(2, port=1)), change(2, "at", 1), n=1, b=2)
        self.next_call(text, (net(1), net(3), box(2, at=3, port=1)), change(2, "at", 1), n=1, b=2)
        self.next_call(text, (net(1, 5), box(2, at=1, port=1)), change(1, "code", None), n=1, b=2)
        self.next_call(text, (net(1), box(2, at=1, port=1, up=2)), change(2, "up", None), n=1, b=2)

    def test_unknown_wants_are_left(self):
        text = N + "thing b: box { at = n; port = 1; up = c; } thing c: box { port = 2; } "
        found = [("begin", "c", 0)]
        result = make(0, "box", at=None, hold=None, port=2, up=None)
        self.next_call(text, (net(1), box(2, at=1, port=1, up=2)), result, n=1, b=2, found=found)
        text = N + "thing b: net { size = told c; zone = 3; } thing c: box { port = 2; }"
        self.next_call(text, (net(1), net(2)), result, n=1, b=2, found=found)

    def test_values_that_are_not_free(self):
        text = "thing a: key { code = 1; } thing b: key { code = 2; } thing c: key { code = 3; } "
        things = [key(1, 9), key(2, 8), key(3, 7), key(4, 1), key(5, 2)]
        self.next_call(text, things, change(3, "code", 3), a=1, b=2, c=3)
        things[4] = key(5, 4)
        self.next_call(text, things, change(2, "code", 2), a=1, b=2, c=3)

    def test_numbers_of_other_kinds_and_fields_and_of_fields_not_single_are_free(self):
        text = "thing a: key { code = 1; } thing b: net { size = 6; zone = 3; }"
        things = (key(1), net(2, 1, size=6), key(3, 2, 1), net(4, 2, size=6))
        self.next_call(text, things, change(1, "code", 1), a=1, b=2, found=())
        things = (key(1, 1), net(2, None, size=5), key(3, 2, 1), net(4, 2, size=6))
        self.next_call(text, things, change(2, "size", 6), a=1, b=2, found=())

    def test_none_is_free(self):
        self.next_call("thing a: key { }", (key(1, 5), key(2)), change(1, "code", None), a=1)

    def test_changes_come_ahead_of_makes_and_takes(self):
        text = N + "thing a: box { port = 1; }"
        self.next_call(text, (net(1, size=9), net(2)), change(1, "size", 4), n=1, leftovers=(2,))


class Makes(CallCase):
    def test_values_of_all_forms_in_ascending_order(self):
        text = N + "thing b: box { up = c; port = told c + 3; at = n; } thing c: box { port = 7; }"
        result = make(0, "box", at=1, hold=None, port=1017, up=2)
        self.next_call(text, (net(1), box(2, port=7)), result, n=1, c=2, found=[("begin", "b", 0)])

    def test_begun_names_keep_their_number(self):
        entries = [("run", 1), ("begin", "x", 0), ("drop", "x"), ("begin", "n", 1), ("begin", "m", 2)]
        result = make(1, "net", code=None, size=4, zone=3)
        self.check(N, entries, look_of(), [], result)
        text = N + "thing m: net { zone = 3; size = 4; } thing a: net { zone = 3; size = 4; code = 8; }"
        self.check(text, entries, look_of(), [("begin", "a", 3)], make(3, "net", code=8, size=4, zone=3))
        result = make(2, "net", code=None, size=4, zone=3)
        self.check(text, entries, look_of(net(4, 8)), [], result)

    def test_in_the_order_of_the_names(self):
        text = "thing b: box { port = 1; } thing c: box { port = 2; } thing a: box { port = 3; }"
        for borne, name, port in (((), "a", 3), ((3,), "b", 1), ((3, 1), "c", 2)):
            things = [box(number + 1, port=other) for number, other in enumerate(borne)]
            result = make(0, "box", at=None, hold=None, port=port, up=None)
            self.next_call(text, things, result, found=[("begin", name, 0)])

    def test_unknown_wants(self):
        text = N + "thing a: box { at = n; port = 1; } thing b: box { port = told n; }"
        result = make(0, "net", code=None, size=4, zone=3)
        self.next_call(text, (), result, found=[("begin", "n", 0)])
        text = N + "thing a: box { hold = c; port = 1; } thing c: box { at = n; port = 2; }"
        self.next_call(
            text, (net(1), net(2)), make(0, "box", at=1, hold=None, port=2, up=None), n=1, found=[("begin", "c", 0)]
        )

    def test_values_of_fixed_fields_must_be_free_too(self):
        text = "thing a: key { tag = 1; } thing b: key { tag = 2; }"
        result = make(0, "key", code=None, tag=2)
        self.next_call(text, (key(1, 5, 1),), result, found=[("begin", "b", 0)])

    def test_none_is_free(self):
        result = make(0, "key", code=None, tag=None)
        self.next_call("thing a: key { }", (key(1),), result, found=[("begin", "a", 0)])

    def test_number_that_is_borne_by_an_own_thing(self):
        # The leftover bears the number: it goes ahead of the make.
        text = "thing a: key { code = 1; tag = 6; }"
        found = [("let", "a")]
        self.next_call(text, (key(1, 1, 5),), take(1), a=1, found=found)

    def test_makes_come_ahead_of_takes_and_clearings(self):
        text = "thing a: key { code = 1; } thing b: net { size = 1; zone = 1; }"
        result = make(0, "key", code=1, tag=None)
        self.next_call(text, (net(1), net(2, 4)), result, leftovers=(1,), found=[("begin", "a", 0)])
        result = make(0, "net", code=None, size=1, zone=1)
        self.next_call(text, (key(1, 1),), result, leftovers=(1,), found=[("begin", "b", 0)])


class Takes(CallCase):
    def test_leftovers_in_ascending_order(self):
        self.next_call("", (key(1), key(2, version=5), key(3)), take(2, 5), leftovers=(3, 2))
        self.next_call("", (key(1), key(3)), take(3), leftovers=(3,))

    def test_things_that_are_needed_are_not_taken(self):
        things = (net(1), box(2, at=1), net(3), box(4, at=3))
        self.next_call("", things, take(2), leftovers=(1, 2))
        self.next_call("", things, take(4), leftovers=(1, 3, 4))

    def test_things_that_bound_things_need(self):
        # What is bound is changed ahead of the take.
        things = (net(1), box(2, at=1), net(3))
        self.next_call("thing b: box { port = 0; }", things, change(2, "at", None), b=2, leftovers=(1, 3))
        self.next_call("thing b: box { port = 0; } " + N, (net(1), box(2), net(3)), take(1), b=2, n=3, leftovers=(1,))

    def test_things_that_need_themselves(self):
        self.next_call("", (box(1, up=1),), change(1, "up", None), leftovers=(1,))
        self.next_call("", (box(1, up=1), key(2)), take(2), leftovers=(1, 2))

    def test_takes_come_ahead_of_clearings(self):
        text = "thing a: key { code = 1; }"
        self.next_call(text, (key(1, 1), key(2, 5, 5)), take(1), leftovers=(1, 2), found=())
        self.next_call("", (box(1, up=3), key(2), box(3, port=1)), take(1), leftovers=(1, 2, 3))
        self.next_call("", (box(1, up=3), key(2), box(3, port=1, up=1)), take(2), leftovers=(1, 2, 3))


class Clearings(CallCase):
    def test_leftovers_that_refer_to_leftovers(self):
        things = (box(1, port=1, up=2), box(2, port=2, up=1, version=3))
        self.next_call("", things, change(1, "up", None), leftovers=(1, 2))
        self.next_call("", (box(1, port=1), box(2, port=2, up=1)), take(2), leftovers=(1, 2))

    def test_bound_names_ahead_of_leftovers(self):
        # The wanted thing c cannot be made: its port is borne by the leftover 5.
        text = "thing b: box { port = 2; up = c; } thing c: box { port = 3; }"
        things = (box(2, port=2, up=5), box(5, port=3, up=6), box(6, port=6, up=5))
        self.next_call(text, things, change(2, "up", None), b=2, leftovers=(5, 6))
        things = (box(2, port=2), box(5, port=3, up=6), box(6, port=6, up=5))
        self.next_call(text, things, change(5, "up", None), b=2, leftovers=(5, 6))

    def test_in_the_order_of_names_and_fields(self):
        text = "thing x: box { port = 1; up = c; } thing a: box { port = 2; up = c; at = n; } "
        text += "thing c: box { port = 3; } thing n: net { code = 3; zone = 3; size = 1; }"
        things = [net(1, 3), box(2, port=2, at=1, up=4), box(3, port=1, up=4), box(4, 1, port=3, hold=4)]
        bound = {"x": 3, "a": 2, "leftovers": (1, 4)}
        self.next_call(text, things, change(2, "at", None), **bound)
        things[1] = box(2, port=2, up=4)
        self.next_call(text, things, change(2, "up", None), **bound)
        things[1] = box(2, port=2)
        self.next_call(text, things, change(3, "up", None), **bound)
        things[2] = box(3, port=1)
        self.next_call(text, things, change(1, "code", None), **bound)

    def test_fields_that_are_fixed_or_may_not_be_empty_are_left(self):
        # The things need each other by a field that is fixed; their port is never empty.
        things = (box(1, port=1, hold=1), box(2, port=2, hold=2))
        paper = (("make", "c", ("borne", "port", 1)), ("take", 1, ("needed", 1)))
        self.next_call("thing c: box { port = 1; }", things, ("stuck", paper), leftovers=(1,))
        paper = (("make", "c", ("borne", "tag", 1)),)
        self.next_call("thing c: key { tag = 1; }", (key(1, 1, 1),), ("stuck", paper))

    def test_number_that_another_bound_thing_wants(self):
        # Each has what the other one wants.
        text = "thing a: key { code = 1; } thing b: key { code = 2; }"
        self.next_call(text, (key(1, 1), key(2, 2)), change(2, "code", None), a=2, b=1)
        self.next_call(text, (key(1, 1), key(2)), change(1, "code", 2), a=2, b=1)
        self.next_call(text, (key(1, 2), key(2)), change(2, "code", 1), a=2, b=1)

    def test_number_that_a_thing_to_be_made_wants(self):
        # The leftover is needed by a thing of others, and stays; its number can go.
        text = "thing c: net { code = 6; size = 4; zone = 3; }"
        things = (net(1, 6), box(2, at=1))
        self.next_call(text, things, change(1, "code", None), leftovers=(1,))
        found = [("begin", "c", 0)]
        self.next_call(
            text, (net(1), box(2, at=1)), make(0, "net", code=6, size=4, zone=3), leftovers=(1,), found=found
        )

    def test_number_that_nobody_wants(self):
        paper = (("take", 1, ("needed", 2)),)
        for text, bound in (("", {}), ("thing c: net { code = 7; size = 4; zone = 3; }", {"c": 3})):
            self.next_call(text, (net(1, 6), box(2, at=1), net(3, 7)), ("stuck", paper), leftovers=(1,), **bound)

    def test_number_that_a_thing_of_another_kind_or_field_wants(self):
        paper = (("make", "c", ("borne", "tag", 4)), ("take", 1, ("needed", 2)))
        things = (net(1, 6), box(2, at=1), key(4, None, 6))
        self.next_call("thing c: key { code = 6; tag = 6; }", things, ("stuck", paper), leftovers=(1,))

    def test_number_in_a_field_that_is_not_single(self):
        # The note of a is that of b, which cannot be made: it is not in the way of b.
        text = "thing a: tip { note = told c; } thing b: tip { note = 7; tag = 1; } thing c: key { tag = 1; }"
        things = (thing(1, "tip", note=7, tag=None), key(2, None, 1), thing(3, "tip", note=None, tag=1))
        paper = (
            ("change", "a", "note", ("wait", "c")),
            ("make", "b", ("borne", "tag", 3)),
            ("make", "c", ("borne", "tag", 2)),
        )
        self.next_call(text, things, ("stuck", paper), a=1)

    def test_number_that_is_wanted_by_a_thing_that_has_it(self):
        paper = (("change", "a", "code", ("borne", 3)),)
        text = "thing a: key { code = 1; } thing b: key { code = 2; }"
        self.next_call(text, (key(1, 9), key(2, 2), key(3, 1)), ("stuck", paper), a=1, b=2)

    def test_number_that_is_its_own_want(self):
        # The told number of b is the number of a: neither gives way.
        text = "thing n: net { zone = 3; size = 4; } thing a: key { code = 1007; } thing b: key { code = told n; }"
        paper = (("change", "b", "code", ("borne", 2)),)
        self.next_call(text, (net(1), key(2, 1007), key(3)), ("stuck", paper), n=1, a=2, b=3)

    def test_number_with_an_unknown_want(self):
        # The want of a hangs on c, which cannot be made; the number of a is wanted by b.
        text = "thing a: key { code = told c; } thing b: key { code = 5; } thing c: key { tag = 1; }"
        things = [key(1, 5), key(2), key(3, None, 1)]
        self.next_call(text, things, change(1, "code", None), a=1, b=2)
        things[0] = key(1)
        self.next_call(text, things, change(2, "code", 5), a=1, b=2)
        things[1] = key(2, 5)
        paper = (("change", "a", "code", ("wait", "c")), ("make", "c", ("borne", "tag", 3)))
        self.next_call(text, things, ("stuck", paper), a=1, b=2)

    def test_unknown_wants_of_others_do_not_seek(self):
        text = "thing a: key { code = told c; } thing c: key { code = 5; tag = 1; }"
        paper = (("change", "a", "code", ("wait", "c")), ("make", "c", ("borne", "tag", 2)))
        self.next_call(text, (key(1, 1014), key(2, None, 1)), ("stuck", paper), a=1)

    def test_reference_to_a_leftover_that_is_wanted_stays(self):
        # What is bound never wants a leftover; what others refer to is not the owner's.
        paper = (("take", 1, ("needed", 2)),)
        self.next_call("", (net(1), box(2, at=1)), ("stuck", paper), leftovers=(1,))


class Settled(CallCase):
    def test_settled(self):
        self.next_call("", (), SETTLED)
        self.next_call("", (net(1, 5), key(2)), SETTLED)
        self.next_call(N, (net(1),), SETTLED, n=1)
        text = N + "thing b: box { at = n; port = told n; }"
        self.next_call(text, (net(1), box(2, at=1, port=1007), key(3, 1007)), SETTLED, n=1, b=2)

    def test_things_of_others_that_refer_to_the_land(self):
        self.next_call(N, (net(1), box(2, at=1)), SETTLED, n=1)

    def test_not_settled(self):
        self.next_call(N, (net(1), net(2)), take(2), n=1, leftovers=(2,))
        self.next_call(N, (net(1, 7),), change(1, "code", None), n=1)
        self.next_call(N, (), make(0, "net", code=None, size=4, zone=3), found=[("begin", "n", 0)])

    def test_things_of_the_owner_that_were_seen_before(self):
        entries = [("run", 1), ("begin", "n", 0), ("bind", "n", 1, 3)]
        look = look_of(made(1, "net", 0, code=None, size=4, zone=3))
        self.check(N, entries, look, [], SETTLED)


if __name__ == "__main__":
    unittest.main()
