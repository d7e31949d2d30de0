"""Points 8 to 11: looks of outsides in which many calls and deeds were done, against an
outside that is written apart; outsides that begin with a look."""

import random
import unittest

from itertools import combinations

from settledland.outside import Outside, outside_of

from tests.model import Model
from tests.worlds import KINDS, MARK, WorldCase, box, net

# The reasons of which two can hold at once in one call, whatever the kinds are.
PAIRS = {
    "make": list(combinations(("old", "used", "form", "need", "taken"), 2)),
    "change": [("old", why) for why in ("gone", "stale", "form", "need", "taken")]
    + [("stale", why) for why in ("form", "need", "taken")]
    + [("form", "need"), ("form", "taken")],
    "take": [("old", "gone"), ("old", "stale"), ("old", "needed"), ("stale", "needed")],
}


class Caller:
    """Thinks of calls and deeds, most of which can be done."""

    def __init__(self, seed):
        self.dice = random.Random(seed)

    def some(self, usual, rare):
        return self.dice.choice(usual if self.dice.random() < 0.8 else rare)

    def mark(self, model):
        owner = self.dice.choice((5, 6))
        return (owner, model.fence(owner) + self.some((0, 1), (-1, -2)))

    def value(self, model, target, marks):
        if target:
            living = [number for number, thing in model.things().items() if thing["kind"] == target]
            usual = living + ([None] if "empty" in marks or not living else [])
            return self.some(usual, (None, 0, 1, 2, 3, 9, 40))
        return self.some(range(8), (None, None, 0, 1, -1, 4294967295, 4294967296))

    def make(self, model):
        kind = self.some(("net", "box", "box", "dot", "jet"), ("nothing", "net", "box"))
        fields = sorted(KINDS.get(kind, {}))
        if self.dice.random() < 0.03:
            fields = self.dice.sample(fields, len(fields)) + ["code"] * self.dice.randrange(2)
        values = tuple((field, self.value(model, *KINDS.get(kind, {}).get(field, ("", ())))) for field in fields)
        return ("make", self.mark(model), (self.dice.choice((5, 6)), self.dice.randrange(40)), kind, values)

    def call(self, model):
        word = self.dice.choice(("fence", "take") + 4 * ("make", "change"))
        if word == "fence":
            return ("fence", self.mark(model))
        if word == "make":
            return self.make(model)
        things = model.things()
        number = self.some(sorted(things) or (1,), range(-1, 30))
        thing = things.get(number, {"kind": "dot", "version": 1})
        version = thing["version"] + self.some((0,), (-1, 1, 2))
        if word == "take":
            return ("take", self.mark(model), number, version)
        fields = KINDS[thing["kind"]]
        free = [field for field, (_, marks) in sorted(fields.items()) if "fixed" not in marks]
        field = self.some(free or ("size",), ("size", "code", "tag", "under", "x"))
        return ("change", self.mark(model), number, version, field, self.value(model, *fields.get(field, ("", ()))))

    def deed(self, model):
        """Returns a call without mark, token and version."""
        call = ("fence",)
        while call[0] == "fence":
            call = self.call(model)
        if call[0] == "make":
            return call[:1] + (None, None) + call[3:]
        return call[:1] + (None, call[2], None) + call[4:]


def do_deed(outside, deed):
    if deed[0] == "make":
        return outside.make(*deed[3:])
    if deed[0] == "change":
        return outside.change(deed[2], *deed[4:])
    return outside.take(deed[2])


class ManyCalls(unittest.TestCase):
    def test_calls_and_deeds_against_the_model(self):
        seen = set()
        for seed in range(160):
            caller, model, outside, calls = Caller(seed), Model(KINDS), Outside(KINDS), 0
            for _ in range(80):
                moment = len(model.done)
                if caller.dice.random() < 0.7:
                    call = caller.call(model)
                    seen.update((call[0], pair) for pair in combinations(model.reasons(call), 2))
                    self.assertEqual(outside.do(call), model.do(call), call)
                    calls += len(model.done) - moment
                else:
                    call = caller.deed(model)
                    self.assertEqual(do_deed(outside, call), model.do(call), call)
                seen.add((call[0], len(model.done) > moment))
                self.assertEqual(outside.look(), model.look(), call)
                self.assertEqual(outside.calls(), calls)
        for word, pairs in PAIRS.items():
            self.assertEqual([pair for pair in pairs if (word, pair) not in seen], [], word)
        for word in ("fence", "make", "change", "take"):
            self.assertIn((word, True), seen)

    def test_outside_of_each_look_answers_the_same(self):
        for seed in range(100, 130):
            caller, model, outside = Caller(seed), Model(KINDS), Outside(KINDS)
            for _ in range(60):
                for call in [caller.call(model) for _ in range(4)]:
                    again = outside_of(KINDS, outside.look())
                    self.assertEqual((again.look(), again.calls()), (outside.look(), 0))
                    self.assertEqual(again.do(call), model.answer(call), call)
                call = caller.call(model)
                self.assertEqual(outside.do(call), model.do(call))

    def test_outside_of_a_look_goes_on_the_same(self):
        # Until a thing is made: this one has another id.
        for seed in range(200, 230):
            caller, model, outside = Caller(seed), Model(KINDS), Outside(KINDS)
            for _ in range(40):
                call = caller.call(model)
                outside.do(call)
                model.do(call)
            again = outside_of(KINDS, outside.look())
            before = outside.calls()
            for call in [caller.call(model) for _ in range(60)]:
                if call[0] != "make" or model.reasons(call):
                    self.assertEqual(again.do(call), outside.do(call), call)
                    self.assertEqual((again.look(), again.calls()), (outside.look(), outside.calls() - before))
                    model.do(call)


class OutsideOf(WorldCase):
    def test_look_without_anything(self):
        outside = outside_of(KINDS, (0, (), (), ()))
        self.assertEqual(outside.look(), (0, (), (), ()))
        self.assertEqual(outside.calls(), 0)
        self.assertEqual(outside.make("dot", ()), ("done",))
        self.assertEqual(outside.look(), (1, (), ((1, "dot", (), 1, 1007, ()),), ()))

    def test_made_changed_and_taken_things(self):
        self.done(("change", MARK, 3, 1, "size", 9))
        self.done(("change", MARK, 4, 1, "up", None))
        self.done(("take", MARK, 3, 2))
        self.done(("fence", (7, 1)))
        look = self.outside.look()
        again = outside_of(KINDS, look)
        self.assertEqual(again.look(), look)
        self.assertEqual(again.calls(), 0)
        self.outside = again
        self.refused("old", ("take", (5, 1), 4, 2), ("take", (7, 0), 4, 2))
        self.refused("stale", ("take", MARK, 4, 1))
        self.refused("gone", ("take", MARK, 3, 2))
        self.refused("needed", ("take", MARK, 1 + 1, 1))
        self.refused("taken", ("make", MARK, (5, 9), "net", net(20)))
        self.done(("make", MARK, (5, 0), "net", net(30)), False)
        self.done(("make", MARK, (5, 1), "net", net(30)), False)
        self.assertEqual((again.look(), again.calls()), (look, 0))
        self.done(("take", MARK, 4, 2))
        self.done(("take", MARK, 2, 1))
        self.assertEqual((again.look()[0], again.calls()), (look[0] + 2, 2))

    def test_ids_are_beyond_all_that_can_have_been_made(self):
        self.assertEqual(self.outside.look()[0], 5)
        again = outside_of(KINDS, self.outside.look())
        self.assertEqual(again.do(("make", MARK, (5, 2), "dot", ())), ("done",))
        self.assertEqual(again.make("dot", ()), ("done",))
        self.assertEqual(
            again.look()[2][4:],
            ((6, "dot", (), 1, 1042, (5, 2)), (7, "dot", (), 1, 1049, ())),
        )
        self.assertEqual(again.calls(), 1)

    def test_ids_behind_taken_things(self):
        outside = Outside(KINDS)
        for _ in range(4):
            outside.make("dot", ())
        for number in (1, 2, 3, 4):
            outside.take(number)
        again = outside_of(KINDS, outside.look())
        again.make("dot", ())
        self.assertEqual([thing[0] for thing in again.look()[2]], [9])

    def test_ids_behind_a_look_of_such_an_outside(self):
        outside = outside_of(KINDS, (7, (), (), ((5, 0),)))
        outside.make("dot", ())
        again = outside_of(KINDS, outside.look())
        again.make("dot", ())
        self.assertEqual([thing[0] for thing in again.look()[2]], [8, 9])

    def test_spent_tokens_and_tokens_of_living_things(self):
        look = (9, ((5, 2),), ((3, "dot", (), 4, 1021, (5, 1)), (4, "dot", (), 1, 1028, ())), ((5, 0), (8, 3)))
        self.outside = outside_of(KINDS, look)
        for token in ((5, 0), (8, 3), (5, 1)):
            self.done(("make", MARK, token, "dot", ()), False)
        self.assertEqual(self.outside.look(), look)
        self.done(("take", MARK, 3, 4))
        self.done(("take", MARK, 4, 1))
        self.assertEqual(self.outside.look(), (11, ((5, 2),), (), ((5, 0), (5, 1), (8, 3))))

    def test_outsides_of_one_look_are_apart(self):
        look = self.outside.look()
        first, second = outside_of(KINDS, look), outside_of(KINDS, look)
        first.do(("fence", (5, 9)))
        first.change(3, "size", 7)
        first.make("box", box(1))
        first.take(4)
        self.assertEqual(second.look(), look)
        self.assertEqual(self.outside.look(), look)
        self.assertEqual((first.calls(), second.calls(), self.outside.calls()), (1, 0, 3))


if __name__ == "__main__":
    unittest.main()
