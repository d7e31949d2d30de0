"""Points 26 and 27: things written as a text, and orders in which things can be taken."""

import random
import unittest

from itertools import permutations

from settledland.calm import calm
from settledland.decider import decide
from settledland.journal import State
from settledland.lands import Land, read_land
from settledland.looking import taking_order, write_land
from settledland.outside import Outside, outside_of
from settledland.printing import print_tree
from settledland.reading import read_tree

from tests.scenes import look_of, thing
from tests.stories import Story
from tests.test_calls_to_make import KINDS, box, key, net

KINDS_OF_LAND = read_land(KINDS).kinds
TREE_OF_KINDS = (
    (
        "box",
        (
            ("at", "net", ("empty",)),
            ("hold", "box", ("empty", "fixed")),
            ("port", "", ("single",)),
            ("up", "box", ("empty",)),
        ),
    ),
    ("key", (("code", "", ("empty", "single")), ("tag", "", ("empty", "fixed", "single")))),
    ("net", (("code", "", ("empty", "single")), ("size", "", ()), ("zone", "", ("fixed",)))),
    ("tip", (("note", "", ("empty",)), ("tag", "", ("empty", "fixed", "single")))),
)


def others_world(seed, events=40):
    """Returns an outside in which others did drawn deeds."""
    story = Story(seed)
    for _ in range(events):
        story.deed()
    return story.kinds, story.outside


class Written(unittest.TestCase):
    def check(self, things, ids, *items):
        tree = write_land(KINDS_OF_LAND, look_of(*things), ids)
        self.assertEqual(tree, (TREE_OF_KINDS, items))

    def test_no_things(self):
        self.check((), [])
        self.check((net(1), key(2)), [])

    def test_kinds_in_ascending_order(self):
        kinds = {"b": {"y": ("", ()), "x": ("a", ("empty", "fixed"))}, "a": {}}
        expected = (("a", ()), ("b", (("x", "a", ("empty", "fixed")), ("y", "", ()))))
        self.assertEqual(write_land(kinds, look_of(), []), (expected, ()))
        self.assertEqual(list(kinds), ["b", "a"])

    def test_values_of_all_forms(self):
        values = (("code", ("number", 7)), ("size", ("number", 4294967295)), ("zone", ("number", 3)))
        more = (("at", ("name", "net.1")), ("port", ("number", 0)), ("up", ("name", "box.2")))
        self.check(
            (net(1, 7, 4294967295), box(2, at=1, port=0, up=2)),
            [1, 2],
            ("thing", "net.1", None, "net", values),
            ("adopt", 1, "net.1"),
            ("thing", "box.2", None, "box", more),
            ("adopt", 2, "box.2"),
        )

    def test_empty_values_are_not_written(self):
        self.check((key(3),), [3], ("thing", "key.3", None, "key", ()), ("adopt", 3, "key.3"))

    def test_order_of_the_list(self):
        things = (key(1), key(5, 2), key(30))
        row = {
            number: (("thing", f"key.{number}", None, "key", ()), ("adopt", number, f"key.{number}"))
            for number in (1, 30)
        }
        row[5] = (("thing", "key.5", None, "key", (("code", ("number", 2)),)), ("adopt", 5, "key.5"))
        for ids in permutations((1, 5, 30)):
            self.check(things, list(ids), *[item for number in ids for item in row[number]])
        self.check(things, [30], *row[30])

    def test_references_outside_of_the_list(self):
        self.check(
            (net(1), box(2, at=1, port=6)),
            [2],
            ("thing", "box.2", None, "box", (("at", ("name", "net.1")), ("port", ("number", 6)))),
            ("adopt", 2, "box.2"),
        )

    def test_things_with_tokens_and_versions(self):
        things = (thing(4, "key", (6, 0), 9, code=None, tag=None),)
        self.check(things, [4], ("thing", "key.4", None, "key", ()), ("adopt", 4, "key.4"))

    def test_text(self):
        tree = write_land(KINDS_OF_LAND, look_of(net(1), box(2, at=1)), [2, 1])
        text = print_tree(tree)
        self.assertEqual(read_tree(text), tree)
        self.assertEqual(sorted(read_land(text).things), ["box.2", "net.1"])

    def settle(self, kinds, outside, ids):
        look = outside.look()
        land = Land(write_land(kinds, look, ids))
        self.assertEqual(land.kinds, kinds)
        again = outside_of(kinds, look)
        entries, calls, result = calm(land, 5, [("run", 1)], again)
        self.assertEqual((calls, result), ([("fence", (5, 1))], ("settled",)))
        self.assertEqual(again.look()[2:], look[2:])
        told = {name: int(name.split(".")[1]) for name in land.things}
        self.assertEqual(State(entries).bound, told)
        self.assertEqual(sorted(told.values()), sorted(ids))

    def test_land_is_settled_at_once(self):
        many = 0
        for seed in range(120):
            kinds, outside = others_world(seed)
            dice = random.Random(seed)
            things = {thing[0]: thing for thing in outside.look()[2]}
            needs = {
                number: {value for field, value in things[number][2] if value and kinds[things[number][1]][field][0]}
                for number in things
            }
            # All things, and those that some things need, if none needs itself.
            for start in ([*things], dice.sample([*things], min(2, len(things)))):
                ids = self.closed(start, needs)
                if len(ids) <= 40 and not self.has_circle(ids, needs):
                    self.settle(kinds, outside, dice.sample(ids, len(ids)))
                    many += len(ids) > 2
        self.assertGreater(many, 20)

    def closed(self, start, needs):
        found, rows = [], list(start)
        while rows:
            number = rows.pop()
            if number not in found:
                found.append(number)
                rows.extend(needs[number])
        return found

    def has_circle(self, ids, needs):
        waiting = set(ids)
        while waiting:
            free = {number for number in waiting if not needs[number] & waiting}
            if not free:
                return True
            waiting -= free
        return False

    def test_another_thing_that_is_needed(self):
        # The net is not in the list: the text has a name that it does not tell.
        outside = Outside(KINDS_OF_LAND)
        outside.make("net", (("code", None), ("size", 1), ("zone", 2)))
        outside.make("box", (("at", 1), ("hold", None), ("port", 6), ("up", None)))
        tree = write_land(KINDS_OF_LAND, outside.look(), [2])
        with self.assertRaises(ValueError):
            Land(tree)
        whole = Land(write_land(KINDS_OF_LAND, outside.look(), [2, 1]))
        outside.do(("fence", (5, 1)))
        adopts = (("adopt", "box.2", 2, 3), ("adopt", "net.1", 1, 3))
        self.assertEqual(decide(whole, 5, [("run", 1)], outside.look()), (adopts, ("settled",)))


class Taken(unittest.TestCase):
    def check(self, things, ids, order, stays=()):
        self.assertEqual(taking_order(KINDS_OF_LAND, look_of(*things), ids), (tuple(order), tuple(stays)))

    def test_least_order(self):
        self.check((), [], [])
        self.check((key(1), key(2), key(3)), [3, 1, 2], [1, 2, 3])
        # 1 is needed by 4, 2 by 3.
        things = (net(1), net(2), box(3, at=2), box(4, port=1, at=1), key(5))
        self.check(things, [1, 2, 3, 4, 5], [3, 2, 4, 1, 5])
        self.check(things, [5, 4, 3, 2, 1], [3, 2, 4, 1, 5])
        self.check(things, [4, 5, 1], [4, 1, 5])

    def test_things_that_are_not_in_the_list_need(self):
        things = (net(1), net(2), box(3, at=2), box(4, port=1, at=1), key(5))
        self.check(things, [1, 2, 3], [3, 2], [(1, 4)])
        self.check(things, [1, 2], [], [(1, 4), (2, 3)])
        self.check(things, [1, 5], [5], [(1, 4)])

    def test_least_thing_that_needs_it_then(self):
        # 9 is needed by 3, which is taken, and by 4, which stays.
        things = (box(3, port=3, up=9), box(4, port=4, hold=9), box(5, port=5, at=None, up=9), box(9))
        self.check(things, [9, 3], [3], [(9, 4)])
        self.check(things, [9, 3, 4], [3, 4], [(9, 5)])
        self.check(things, [9, 3, 4, 5], [3, 4, 5, 9])

    def test_things_that_need_themselves(self):
        self.check((box(1, up=1),), [1], [], [(1, 1)])
        self.check((box(1, up=1), box(2, port=1, hold=2), key(3)), [3, 2, 1], [3], [(1, 1), (2, 2)])

    def test_circles(self):
        things = (
            box(1, up=2), box(2, port=1, up=3), box(3, port=2, up=1), box(4, port=3, up=3), net(5), box(6, port=6, at=5)
        )
        self.check(things, [1, 2, 3, 4, 5, 6], [4, 6, 5], [(1, 3), (2, 1), (3, 2)])
        self.check(things, [3, 2, 1], [], [(1, 3), (2, 1), (3, 2)])

    def test_chain(self):
        things = (net(1), box(2, at=1), box(3, port=1, up=2), box(4, port=2, hold=3))
        self.check(things, [1, 2, 3, 4], [4, 3, 2, 1])
        self.check(things, [1, 2, 3], [], [(1, 2), (2, 3), (3, 4)])

    def test_drawn_worlds(self):
        whole = 0
        for seed in range(200):
            kinds, outside = others_world(seed, 25)
            dice = random.Random(seed)
            look = outside.look()
            ids = [thing[0] for thing in look[2]]
            ids = dice.sample(ids, dice.randrange(len(ids) + 1))
            order, stays = taking_order(kinds, look, ids)
            self.assertEqual(sorted([*order, *[number for number, _ in stays]]), sorted(ids))
            for at, number in enumerate(order):
                # No lesser one could be taken now.
                for lesser in [other for other in ids if other < number and other not in order[:at]]:
                    self.assertEqual(outside_of(kinds, outside.look()).take(lesser), ("refused", "needed"))
                self.assertEqual(outside.take(number), ("done",))
            things = outside.look()[2]
            for number, needer in stays:
                self.assertEqual(outside.take(number), ("refused", "needed"))
                found = [
                    thing[0]
                    for thing in things
                    for field, value in thing[2]
                    if kinds[thing[1]][field][0] and value == number
                ]
                self.assertEqual(needer, min(found))
            self.assertEqual(list(stays), sorted(stays))
            whole += len(order) > 2 and not stays
            if len(ids) < 6:
                self.check_all_orders(kinds, look, ids, order, stays)
        self.assertGreater(whole, 10)

    def check_all_orders(self, kinds, look, ids, order, stays):
        possible = []
        for other in permutations(sorted(ids)):
            outside = outside_of(kinds, look)
            if all(outside.take(number) == ("done",) for number in other):
                possible.append(other)
        self.assertEqual(possible[:1], [] if stays else [order])


if __name__ == "__main__":
    unittest.main()
