"""Points 8 to 10: calls and deeds of others that are done, and the things of looks."""

import unittest

from settledland.outside import Outside

from tests.worlds import KINDS, MARK, OLD, WorldCase, box, net


class Fences(WorldCase):
    def test_fence_rises_and_stays(self):
        fence = 2
        for run in (2, 1, 0, 3, 3, 2, 9):
            self.done(("fence", (5, run)), run > fence)
            fence = max(fence, run)
            self.assertEqual(self.outside.look()[1], ((5, fence),))

    def test_fences_of_other_owners(self):
        self.done(("fence", (7, 4)))
        self.done(("fence", (4294967295, 1)))
        self.done(("fence", (1, 3)))
        self.done(("fence", (7, 2)), False)
        self.assertEqual(self.outside.look()[1], ((1, 3), (5, 2), (7, 4), (4294967295, 1)))
        self.done(("fence", (5, 3)))
        self.assertEqual(self.outside.look()[1], ((1, 3), (5, 3), (7, 4), (4294967295, 1)))

    def test_fence_of_zero_is_no_fence(self):
        self.done(("fence", (7, 0)), False)
        self.done(("fence", (7, -1)), False)
        self.assertEqual(self.outside.look()[1], ((5, 2),))

    def test_fence_counts_for_its_owner_alone(self):
        self.done(("make", (6, 0), (6, 0), "dot", ()))
        self.done(("fence", (6, 9)))
        self.done(("change", MARK, 3, 1, "size", 5))
        self.refused("old", ("change", (6, 8), 3, 2, "size", 6))
        self.done(("change", (6, 9), 3, 2, "size", 6))
        self.done(("change", (6, 10), 3, 3, "size", 7))

    def test_call_of_a_later_run_is_no_fence(self):
        self.done(("make", (5, 7), (5, 2), "dot", ()))
        self.assertEqual(self.outside.look()[1], ((5, 2),))
        self.done(("take", MARK, 5, 1))

    def test_owner_of_the_mark_counts_not_that_of_the_token(self):
        self.done(("make", (6, 0), (5, 9), "dot", ()))
        self.refused("old", ("make", OLD, (6, 9), "dot", ()))
        self.done(("make", MARK, (6, 9), "dot", ()))


class Makes(WorldCase):
    def test_things_of_a_look(self):
        self.assertEqual(
            self.outside.look(),
            (
                5,
                ((5, 2),),
                (
                    (1, "net", net(10, 0, 70), 1, 1007, (5, 0)),
                    (2, "net", net(20), 1, 1014, ()),
                    (3, "box", box(1, 0, 80), 1, 1021, (5, 1)),
                    (4, "box", box(2, 1, None, 3), 1, 1028, ()),
                ),
                (),
            ),
        )
        self.assertEqual(self.outside.calls(), 3)

    def test_kinds_without_fields(self):
        self.done(("make", MARK, (5, 2), "dot", ()))
        self.assertEqual(self.thing(5), (5, "dot", (), 1, 1035, (5, 2)))
        self.assertEqual(self.outside.make("dot", ()), ("done",))
        self.assertEqual(self.thing(6), (6, "dot", (), 1, 1042, ()))

    def test_ids_are_not_given_again(self):
        for k in range(3):
            self.done(("make", MARK, (5, 2 + k), "dot", ()))
            self.done(("take", MARK, 5 + k, 1))
        self.assertEqual(self.outside.make("dot", ()), ("done",))
        self.assertEqual([thing[0] for thing in self.outside.look()[2]], [1, 2, 3, 4, 8])
        self.assertEqual(self.thing(8)[4], 1056)

    def test_refused_makes_give_no_ids(self):
        self.refused("taken", ("make", MARK, (5, 2), "net", net(10)))
        self.refused("need", ("make", MARK, (5, 2), "box", box(3)))
        self.done(("make", MARK, (5, 2), "net", net(30)))
        self.assertEqual(self.thing(5)[5], (5, 2))

    def test_token_that_was_used(self):
        for token in ((5, 0), (5, 1)):
            for kind, values in (("net", net(30)), ("dot", ()), ("box", box(1, 0, 80)), ("nothing", ())):
                self.done(("make", MARK, token, kind, values), False)
        self.done(("make", (8, 0), (5, 0), "net", net(30)), False)
        self.assertEqual(len(self.outside.look()[2]), 4)

    def test_token_that_was_used_for_a_thing_that_lives_no_more(self):
        self.done(("make", MARK, (5, 2), "dot", ()))
        self.done(("take", MARK, 5, 1))
        self.done(("make", MARK, (5, 2), "dot", ()), False)
        self.done(("make", MARK, (5, 2), "net", net(30)), False)
        self.assertEqual(self.outside.look()[3], ((5, 2),))
        self.assertEqual(self.thing(6), None)

    def test_token_of_a_refused_make_is_not_used(self):
        self.refused("taken", ("make", MARK, (5, 2), "net", net(10)))
        self.refused("form", ("make", MARK, (5, 2), "net", ()))
        self.assertEqual(self.outside.look()[3], ())
        self.done(("make", MARK, (5, 2), "net", net(11)))

    def test_tokens_of_other_owners_and_numbers(self):
        for token in ((5, 2), (6, 0), (0, 5), (6, 5), (5, 4294967295)):
            self.done(("make", MARK, token, "dot", ()))
        self.assertEqual(len(self.outside.look()[2]), 9)

    def test_values_at_their_limits(self):
        self.done(("make", MARK, (5, 2), "net", net(0, 4294967295, 0, 0)))
        self.done(("make", MARK, (5, 3), "net", net(4294967295, 0, None, 4294967295)))
        self.done(("make", MARK, (5, 4), "box", box(5, 0, 0, None, 6, 3)))
        self.assertEqual(self.thing(7)[2], box(5, 0, 0, None, 6, 3))

    def test_single_numbers_of_other_fields_kinds_and_things(self):
        self.done(("make", MARK, (5, 2), "net", net(70, 0, 10)))
        self.done(("make", MARK, (5, 3), "net", net(80, 20, 20, 10)))
        self.done(("make", MARK, (5, 4), "box", box(1, 80, 10)))
        self.done(("make", MARK, (5, 5), "box", box(1)))
        self.done(("take", MARK, 5, 1))
        self.done(("make", MARK, (5, 6), "net", net(70, 0, 10)))

    def test_single_numbers_in_a_field_of_the_same_name(self):
        self.done(("make", MARK, (5, 2), "jet", (("code", 10),)))
        self.refused("taken", ("make", MARK, (5, 3), "jet", (("code", 10),)))
        self.done(("change", MARK, 5, 1, "code", 20))
        self.done(("change", MARK, 5, 2, "code", 30))
        self.done(("change", MARK, 1, 1, "code", 30))


class Changes(WorldCase):
    def test_values_and_versions(self):
        self.done(("change", MARK, 4, 1, "size", 8))
        self.assertEqual(self.thing(4), (4, "box", box(2, 8, None, 3), 2, 1028, ()))
        self.done(("change", MARK, 4, 2, "at", 1))
        self.done(("change", MARK, 4, 3, "up", None))
        self.done(("change", MARK, 4, 4, "port", 4294967295))
        self.assertEqual(self.thing(4), (4, "box", box(1, 8, 4294967295), 5, 1028, ()))
        self.done(("change", MARK, 1, 1, "note", 0))
        self.assertEqual(self.thing(1), (1, "net", net(10, 0, 70, 0), 2, 1007, (5, 0)))
        self.assertEqual(self.thing(2), (2, "net", net(20), 1, 1014, ()))

    def test_change_to_the_same_value(self):
        for number, field, value in ((1, "code", 10), (1, "note", None), (3, "at", 1), (3, "port", 80), (4, "up", 3)):
            before = self.thing(number)
            self.done(("change", MARK, number, before[3], field, value))
            self.assertEqual(self.thing(number), before[:3] + (before[3] + 1,) + before[4:])

    def test_thing_that_refers_to_itself(self):
        self.done(("change", MARK, 3, 1, "up", 3))
        self.assertEqual(self.thing(3)[2], box(1, 0, 80, 3))
        self.refused("needed", ("take", MARK, 3, 2))
        self.done(("change", MARK, 4, 1, "up", None))
        self.refused("needed", ("take", MARK, 3, 2))
        self.done(("change", MARK, 3, 2, "up", None))
        self.done(("take", MARK, 3, 3))

    def test_things_that_refer_to_each_other(self):
        self.done(("change", MARK, 3, 1, "up", 4))
        self.refused("needed", ("take", MARK, 3, 2), ("take", MARK, 4, 1))

    def test_number_that_became_free(self):
        self.refused("taken", ("change", MARK, 4, 1, "port", 80))
        self.done(("change", MARK, 3, 1, "port", 81))
        self.done(("change", MARK, 4, 1, "port", 80))
        self.refused("taken", ("change", MARK, 3, 2, "port", 80))
        self.done(("change", MARK, 4, 2, "port", None))
        self.done(("change", MARK, 3, 2, "port", 80))


class Takes(WorldCase):
    def test_take(self):
        self.done(("take", MARK, 4, 1))
        self.assertEqual([thing[0] for thing in self.outside.look()[2]], [1, 2, 3])
        self.done(("take", MARK, 3, 1))
        self.done(("take", MARK, 1, 1))
        self.done(("take", MARK, 2, 1))
        self.assertEqual(self.outside.look(), (9, ((5, 2),), (), ((5, 0), (5, 1))))
        self.assertEqual(self.outside.calls(), 7)

    def test_version_that_was_seen(self):
        self.done(("change", MARK, 4, 1, "size", 5))
        self.done(("take", MARK, 4, 2))

    def test_numbers_are_no_references(self):
        self.done(("make", MARK, (5, 2), "dot", ()))
        self.done(("change", MARK, 4, 1, "size", 5))
        self.done(("change", MARK, 1, 1, "note", 5))
        self.done(("take", MARK, 5, 1))

    def test_spent_tokens_are_ascending(self):
        for token in ((7, 0), (5, 10), (5, 9), (4, 12)):
            self.done(("make", MARK, token, "dot", ()))
        for number in (6, 5, 8, 7, 4):
            self.done(("take", MARK, number, 1))
        self.assertEqual(self.outside.look()[3], ((4, 12), (5, 9), (5, 10), (7, 0)))


class DeedsOfOthers(WorldCase):
    def deed_done(self, answer):
        self.assertEqual(answer, ("done",))
        moment = self.outside.look()[0]
        self.assertEqual(moment, self.moment + 1)
        self.assertEqual(self.outside.calls(), 3)
        self.moment = moment

    def setUp(self):
        super().setUp()
        self.moment = self.outside.look()[0]

    def test_deeds_that_are_done(self):
        self.deed_done(self.outside.make("net", net(30, 4294967295, 71, 0)))
        self.assertEqual(self.thing(5), (5, "net", net(30, 4294967295, 71, 0), 1, 1035, ()))
        self.deed_done(self.outside.make("box", box(5, 1, 81, 4, 1, 3)))
        self.deed_done(self.outside.change(6, "at", 1))
        self.deed_done(self.outside.change(6, "port", None))
        self.deed_done(self.outside.change(6, "port", None))
        self.assertEqual(self.thing(6), (6, "box", box(1, 1, None, 4, 1, 3), 4, 1042, ()))
        self.deed_done(self.outside.take(6))
        self.deed_done(self.outside.take(5))
        self.assertEqual(self.thing(6), None)
        self.assertEqual(self.outside.look()[3], ())

    def test_things_of_owners_too(self):
        self.deed_done(self.outside.change(3, "size", 9))
        self.assertEqual(self.thing(3), (3, "box", box(1, 9, 80), 2, 1021, (5, 1)))
        self.deed_done(self.outside.take(4))
        self.deed_done(self.outside.take(3))
        self.assertEqual(self.outside.look()[3], ((5, 1),))
        self.refused("gone", ("take", MARK, 3, 2))
        self.done(("make", MARK, (5, 1), "box", box(1)), False)

    def test_nothing_is_stale_or_old(self):
        self.done(("fence", (0, 4294967295)))
        self.done(("change", MARK, 4, 1, "size", 5))
        self.assertEqual(self.outside.change(4, "size", 6), ("done",))
        self.assertEqual(self.outside.take(4), ("done",))
        self.assertEqual(self.outside.make("dot", ()), ("done",))

    def test_equal_things_are_made_twice(self):
        self.deed_done(self.outside.make("dot", ()))
        self.deed_done(self.outside.make("dot", ()))
        self.assertEqual([thing[0] for thing in self.outside.look()[2]], [1, 2, 3, 4, 5, 6])


class Beginnings(unittest.TestCase):
    def test_without_things(self):
        for kinds in ({}, KINDS):
            outside = Outside(kinds)
            self.assertEqual(outside.look(), (0, (), (), ()))
            self.assertEqual(outside.calls(), 0)

    def test_first_thing(self):
        outside = Outside(KINDS)
        self.assertEqual(outside.do(("make", (3, 0), (3, 8), "net", net(4))), ("done",))
        self.assertEqual(outside.look(), (1, (), ((1, "net", net(4), 1, 1007, (3, 8)),), ()))
        self.assertEqual(outside.calls(), 1)

    def test_kinds_that_are_none(self):
        self.assertEqual(Outside({}).make("dot", ()), ("refused", "form"))

    def test_example(self):
        outside = Outside({"net": {"zone": ("", ("fixed",))}})
        self.assertEqual(outside.do(("fence", (5, 1))), ("done",))
        self.assertEqual(outside.do(("make", (5, 1), (5, 0), "net", (("zone", 3),))), ("done",))
        self.assertEqual(outside.look(), (2, ((5, 1),), ((1, "net", (("zone", 3),), 1, 1007, (5, 0)),), ()))


if __name__ == "__main__":
    unittest.main()
