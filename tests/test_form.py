"""Point 4: the form of a text, and the place at which reading fails."""

import unittest

from settledland.errors import SyntaxProblem
from settledland.reading import read_tree, tokens

from tests.automaton import ENDS, STATES, WRITTEN, state_behind

# Together these parts have each choice of the form.
PARTS = (
    "kind net { }",
    "kind zone { code: number; }",
    "kind box { at: ref net fixed; size: number empty fixed single fixed; up: ref box; }",
    "thing n: net { }",
    "thing b: box { size = 3; at = n; up = none; }",
    "thing c * 3: box { size = index; x = index + 7; at = n.#; y = told n; z = told n.# + 40; }",
    "keep n;",
    "most 3;",
    "adopt 17 as b;",
    "move a to c.1;",
)
TEXT = " ".join(PARTS)


def form_of(text, token):
    sort, start, end = token
    return {"name": "NAME", "number": "NUMBER", "wrong": "wrong"}.get(sort, text[start:end])


def place_of_failure(text):
    """Returns where reading the text fails, or None."""
    try:
        read_tree(text)
    except SyntaxProblem as problem:
        return problem.start
    return None


class Form(unittest.TestCase):
    def test_whole_text(self):
        self.assertIsNone(place_of_failure(TEXT))

    def test_each_part_alone(self):
        for part in PARTS:
            self.assertIsNone(place_of_failure(part), part)

    def test_text_has_each_choice(self):
        state = "kinds"
        seen = set()
        for token in tokens(TEXT):
            form = form_of(TEXT, token)
            seen.add((state, form))
            state = STATES[state][form]
        allowed = {(state, form) for state in STATES for form in STATES[state]}
        # A text begins its items but once; test_each_part_alone has the other beginnings.
        begun = {("kinds", word) for word in ("keep", "most", "adopt", "move")}
        self.assertEqual(allowed - seen, begun)

    def test_cut_off_behind_each_token(self):
        found = tokens(TEXT)
        forms = [form_of(TEXT, token) for token in found]
        for many in range(1, len(found) + 1):
            end = found[many - 1][2]
            expected = None if state_behind(forms[:many]) in ENDS else end
            for more in ("", "  \n", " ! note", "!\n "):
                self.assertEqual(place_of_failure(TEXT[:end] + more), expected, TEXT[:end])

    def test_every_token_at_each_place(self):
        found = tokens(TEXT)
        forms = [form_of(TEXT, token) for token in found]
        for many in range(len(found) + 1):
            ahead = TEXT[: found[many - 1][2]] + " " if many else ""
            state = state_behind(forms[:many])
            for form, written in WRITTEN.items():
                for piece in written:
                    text = ahead + piece
                    if form not in STATES[state]:
                        expected = len(ahead)
                    elif STATES[state][form] in ENDS:
                        expected = None
                    else:
                        expected = len(text)
                    self.assertEqual(place_of_failure(text), expected, text)
                    if form not in STATES[state]:
                        self.assertEqual(place_of_failure(text + " ; {"), expected, text)

    def test_left_over_behind_a_whole_land(self):
        for piece in ("}", ";", "a", "3", "none", "fixed", ",", "kind", "kind k { }"):
            self.assertEqual(place_of_failure(TEXT + "\n " + piece), len(TEXT) + 2)

    def test_kind_behind_an_item(self):
        self.assertEqual(place_of_failure("keep a; kind k { }"), 8)
        self.assertEqual(place_of_failure("kind k { } thing a: k { } kind j { }"), 26)

    def test_nothing_to_read(self):
        for text in ("", " ", "\n\n", "! note", "! note\n", " !a\n !b\n  "):
            self.assertEqual(read_tree(text), ((), ()))

    def test_word_where_a_name_must_stand(self):
        for text in (
            "kind @ { }",
            "kind k { @: number; }",
            "kind k { x: ref @; }",
            "thing @: k { }",
            "thing a: @ { }",
            "thing a: k { @ = 1; }",
            "thing a: k { x = told @; }",
            "keep @;",
            "adopt 1 as @;",
            "move @ to b;",
            "move a to @;",
        ):
            place = text.index("@")
            for word in ("kind", "thing", "number", "as", "to", "index", "most", "single"):
                self.assertEqual(place_of_failure(text.replace("@", word)), place, text)
            for name in ("kinds", "Thing", "number.0", "to_", "index#"):
                self.assertIsNone(place_of_failure(text.replace("@", name)), text)

    def test_first_of_several_faults_counts(self):
        self.assertEqual(place_of_failure("keep 1; keep 2;"), 5)
        self.assertEqual(place_of_failure("keep a; keep ,"), 13)
        self.assertEqual(place_of_failure("keep a keep b"), 7)

    def test_place_is_behind_notes_and_spaces(self):
        self.assertEqual(place_of_failure("keep ! a;\n\n  7;"), 13)
        self.assertEqual(place_of_failure("keep\n ! a;\n"), 4)

    def test_only_rules_are_broken(self):
        for text in ("keep nobody;", "thing a: b { c = d; c = d; }", "kind k { x: ref none.; } most 1; most 2;"):
            self.assertIsNone(place_of_failure(text))


if __name__ == "__main__":
    unittest.main()
