"""Point 1 over the whole program, from texts to settled lands, and the interface."""

import ast
import collections
import importlib
import inspect
import random
import unittest

from pathlib import Path

import settledland

from settledland.calm import calm
from settledland.decider import decide
from settledland.driven import Driven
from settledland.errors import InvalidLand, LandError
from settledland.journal import State, next_run
from settledland.judges import judge_preview, judge_stuck
from settledland.lands import read_land
from settledland.outside import Outside, outside_of
from settledland.previews import preview, report
from settledland.rounds import calm_rounds

from tests.stories import CALLS, Story
from tests.test_stories import check_told

INTERFACE = {
    "errors": ["LandError", "InvalidCall", "InvalidJournal", "SyntaxProblem", "InvalidLand"],
    "reading": ["tokens(text)", "read_tree(text)"],
    "printing": ["print_tree(tree)"],
    "rules": ["written_out(tree)", "check_tree(tree)"],
    "lands": ["Land(self, tree)", "read_land(text)"],
    "outside": ["Outside(self, kinds)", "outside_of(kinds, look)"],
    "journal": ["State(self, entries)", "next_run(entries)"],
    "newness": ["lets(land, state, look)", "to_make(land, state, look)"],
    "decider": ["decide(land, owner, entries, look)"],
    "calm": ["calm(land, owner, entries, outside)"],
    "previews": ["preview(land, owner, entries, look)", "report(land, owner, entries, look)"],
    "judges": ["judge_preview(land, owner, entries, look, given)", "judge_stuck(land, owner, entries, look, paper)"],
    "rounds": ["decide_round(land, owner, entries, look)", "calm_rounds(land, owner, entries, outside)"],
    "looking": [
        "drift(land, owner, entries, look)",
        "cause(land, state, look, name)",
        "change_of_texts(first, second)",
        "write_land(kinds, look, ids)",
        "taking_order(kinds, look, ids)",
    ],
    "driven": ["Driven(self, land, owner)"],
}
METHODS = {
    ("outside", "Outside"): [
        "do(call)", "make(kind, values)", "change(id_of_thing, field, value)", "take(id_of_thing)", "look()", "calls()"
    ],
    ("driven", "Driven"): [
        "run(land)", "decide(back)", "under_way()", "do(number)", "others()", "journal()", "events()", "calm()"
    ],
}

TEXT = """
    kind net { zone: number fixed; code: number single; }
    kind host { at: ref net fixed; port: number single empty; next: ref host empty; size: number; }
    thing n * 2: net { zone = index + 1; code = index + 10; }
    thing front: host { at = n.0; port = 80; next = back.0; size = 2; }
    thing back * 3: host { at = n.1; port = index + 90; size = told n.1; }
"""


class Interface(unittest.TestCase):
    def test_names_and_arguments(self):
        for module, rows in INTERFACE.items():
            for row in rows:
                name, _, arguments = row.rstrip(")").partition("(")
                found = getattr(importlib.import_module(f"settledland.{module}"), name)
                self.assertEqual(found.__module__, f"settledland.{module}")
                if arguments:
                    function = found.__init__ if inspect.isclass(found) else found
                    self.assertEqual(list(inspect.signature(function).parameters), arguments.split(", "), row)

    def test_methods_stand_in_their_classes(self):
        for (module, name), rows in METHODS.items():
            found = getattr(importlib.import_module(f"settledland.{module}"), name)
            for row in rows:
                method, _, arguments = row.rstrip(")").partition("(")
                self.assertIn(method, vars(found))
                parameters = list(inspect.signature(vars(found)[method]).parameters)
                self.assertEqual(parameters, ["self"] + [word for word in arguments.split(", ") if word])

    def test_errors_derive_from_land_error(self):
        self.assertEqual(LandError.__bases__, (ValueError,))
        for name in INTERFACE["errors"][1:]:
            error = getattr(importlib.import_module("settledland.errors"), name)
            self.assertEqual(error.__bases__, (LandError,))

    def test_no_file_imports_in_a_circle(self):
        graph = {}
        for path in Path(settledland.__file__).parent.glob("*.py"):
            nodes = [node for node in ast.walk(ast.parse(path.read_text())) if isinstance(node, ast.ImportFrom)]
            graph[path.stem] = {node.module.split(".")[1] for node in nodes}
        while graph:
            free = [name for name, others in graph.items() if not others & set(graph)]
            self.assertNotEqual(free, [])
            for name in free:
                del graph[name]


class FromTextsToLands(unittest.TestCase):
    def test_settled_and_changed_and_taken(self):
        first = read_land(TEXT)
        world = Driven(first, 9)
        world.run(first)
        self.assertEqual(world.calm(), ("settled",))
        self.assertEqual(len([call for call in world.under_way() if call[0] == "make"]), 6)
        # A fixed value of n.1 becomes another one: it and what needs it are made anew.
        other = TEXT.replace("zone = index + 1", "zone = 1")
        world.run(read_land(other))
        self.assertEqual(world.calm(), ("settled",))
        made = [call for call in world.under_way() if call[0] == "make" and call[1] == (9, 2)]
        self.assertEqual(len(made), 4)
        # Fewer things: nothing is made.
        world.run(read_land(other.replace("back * 3", "back * 1")))
        self.assertEqual(world.calm(), ("settled",))
        words = [call[0] for call in world.under_way() if call[1] == (9, 3)]
        self.assertEqual(words, ["fence", "take", "take"])
        world.run(read_land(TEXT[: TEXT.index("thing")]))
        self.assertEqual(world.calm(), ("settled",))
        self.assertEqual(world.others().look()[2], ())

    def test_cut_runs(self):
        # The run is cut behind each number of calls; calls may be lost, late or doubled.
        land, other = read_land(TEXT), read_land(TEXT.replace("size = told n.1", "size = 7"))
        for cut in range(12):
            for way in ("lost", "late", "doubled"):
                world = Driven(land, 9)
                world.run(land)
                for _ in range(cut):
                    result = world.decide(0)
                    if result[0] in CALLS and (way == "doubled" or len(world.under_way()) < cut):
                        world.do(len(world.under_way()) - 1)
                        if way == "doubled":
                            world.do(len(world.under_way()) - 1)
                late = len(world.under_way()) - 1
                world.run(other)
                world.decide(0)
                if way == "late" and late >= 0:
                    world.do(late)
                self.assertEqual(world.calm(), ("settled",))
                for number in range(len(world.under_way())):
                    before = world.others().look()
                    world.do(number)
                    self.assertEqual(world.others().look(), before)
                check_told(self, other, 9, world.journal(), world.others().look())
                tokens = [thing[5] for thing in world.others().look()[2]]
                self.assertEqual(len(tokens), 6)
                self.assertEqual(len(set(tokens)), 6)

    def test_stuck_with_a_paper_that_shows_why(self):
        land = read_land(TEXT)
        outside = Outside(land.kinds)
        outside.make("net", (("code", 11), ("zone", 0)))
        entries, _, result = calm(land, 9, [("run", 1)], outside)
        paper = (
            ("make", "back.0", ("wait", "at", "n.1")),
            ("make", "back.1", ("wait", "at", "n.1")),
            ("make", "back.2", ("wait", "at", "n.1")),
            ("make", "front", ("wait", "next", "back.0")),
            ("make", "n.1", ("borne", "code", 1)),
        )
        self.assertEqual(result, ("stuck", paper))
        self.assertIs(judge_stuck(land, 9, entries, outside.look(), paper), True)
        outside.change(1, "code", 12)
        self.assertIs(judge_stuck(land, 9, entries, outside.look(), paper), False)
        self.assertEqual(calm(land, 9, entries, outside)[2], ("settled",))
        self.assertEqual(outside.look()[2][0], (1, "net", (("code", 12), ("zone", 0)), 2, 1007, ()))

    def test_largest_land(self):
        kinds, things = "", ""
        for k in range(6):
            before = max(k - 1, 0)
            kinds += f"kind k{k} {{ a: number single; b: ref k{before} empty fixed; c: number empty single; "
            kinds += f"d: number; e: number; f: ref k{k} empty; }} "
            need = f"t{k - 1}.#" if k else "none"
            things += f"thing t{k} * {10 if k < 4 else 0}: k{k} {{ "
            things += f"a = index; b = {need}; c = index + 50; d = 4; e = 5; }} "
        land = read_land(kinds + things)
        self.assertEqual(len(land.things), 40)
        outside = Outside(land.kinds)
        entries, calls, result = calm(land, 5, [("run", 1)], outside)
        self.assertEqual((result, len(calls)), (("settled",), 41))
        _, rounds, result = calm_rounds(land, 5, [("run", 1)], Outside(land.kinds))
        self.assertEqual((result, [len(row) for row in rounds]), (("settled",), [1, 10, 10, 10, 10]))
        # All numbers of a kind are exchanged in a ring.
        other = read_land(
            kinds + things.replace("a = index", "a = index + 1").replace("c = index + 50", "c = index + 51")
        )
        told = calm(other, 5, entries + [next_run(entries)], outside)
        self.assertEqual(told[2], ("settled",))
        check_told(self, other, 5, told[0], outside.look())

    def test_drawn_stories_end_well(self):
        seen = collections.Counter()
        for seed in range(7000, 7060):
            story = Story(seed)
            for _ in range(60):
                story.event()
            owner = story.owners[0]
            scene = (owner.land, owner.number, owner.journal, story.look())
            before = {thing[0]: thing for thing in story.look()[2]}
            told = preview(*scene)
            text = report(*scene)
            entries, calls, result = calm(*scene[:3], outside_of(story.kinds, story.look()))
            self.assertEqual((told[0], told[1]), (tuple(calls), result))
            self.assertEqual(len(text.splitlines()), len(calls) + 1)
            self.assertIs(judge_preview(*scene, told), result == ("settled",))
            entries, calls, result = calm(*scene[:3], story.outside)
            after = {thing[0]: thing for thing in story.look()[2]}
            # Only things of the text were ever changed.
            mine = {entry[2] for entry in entries if entry[0] in ("bind", "adopt")}
            self.assertEqual({number for number in before if before[number] != after.get(number)} - mine, set())
            tokens = [thing[5] for thing in after.values() if thing[5]]
            self.assertEqual(len(tokens), len(set(tokens)))
            if result[0] == "stuck":
                self.assertIs(judge_stuck(*scene[:2], entries, story.look(), result[1]), True)
                self.assertEqual(decide(*scene[:2], entries, story.look()), ((), result))
            elif result == ("settled",):
                check_told(self, owner.land, owner.number, entries, story.look())
                self.assertEqual(sorted(State(entries).bound), sorted(owner.land.things))
            seen[result[0]] += 1
        self.assertGreater(seen["settled"], 10)
        self.assertGreater(seen["stuck"], 5)

    def test_texts_of_signs_drawn_by_chance(self):
        dice = random.Random(3)
        signs = "kind thing n : { } ; = 3 * + move a to b adopt most keep told none index # . ~ ! \n".split(" ")
        for _ in range(500):
            text = " ".join(dice.choice(signs) for _ in range(dice.randrange(12)))
            try:
                land = read_land(text)
            except LandError:
                continue
            self.assertEqual(calm(land, 1, [("run", 1)], Outside(land.kinds))[2], ("settled",))

    def test_wrong_lands(self):
        with self.assertRaises(InvalidLand):
            read_land("keep n;")


if __name__ == "__main__":
    unittest.main()
