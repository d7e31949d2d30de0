"""Point 12: the state of a journal, entries that fit and that do not, and the next run."""

import unittest

from itertools import product

from settledland.errors import InvalidJournal, LandError
from settledland.journal import State, next_run

ATTRIBUTES = ("run", "bound", "begun", "leftovers", "moment", "tokens", "lets")
# In this state a is bound to 7, b is begun with the token 1 in the run 2, c and d are free,
# 5 is a leftover, and the moment is 4.
BEGINNING = (
    ("run", 2),
    ("begin", "a", 0),
    ("begin", "b", 1),
    ("adopt", "d", 5, 3),
    ("let", "d"),
    ("bind", "a", 7, 4),
)


def attributes_of(state):
    return {name: getattr(state, name) for name in ATTRIBUTES}


def state_of(*entries):
    return attributes_of(State(list(entries)))


def fits(entries):
    try:
        State(entries)
    except InvalidJournal:
        return False
    return True


# The same, written apart: each attribute from all entries, without a state between them.


def last_entry_of(entries, name):
    """Returns the last entry that tells what the name is, seen from it; or None."""
    for entry in reversed(entries):
        if entry[0] == "move" and entry[2] == name:
            return entry
        if entry[0] not in ("run", "gone") and entry[1] == name:
            return entry
    return None


def id_of(entries, name):
    """Returns the id to which the name is bound, or None."""
    entry = last_entry_of(entries, name)
    if entry is None or entry[0] not in ("bind", "adopt", "move") or entry[:2] == ("move", name):
        return None
    if entry[0] == "move":
        return id_of(entries[: last_place(entries, entry)], entry[1])
    return entry[2]


def last_place(entries, entry):
    return len(entries) - 1 - entries[::-1].index(entry)


def run_of(entries):
    return max([0] + [entry[1] for entry in entries if entry[0] == "run"])


def begin_of(entries, name):
    entry = last_entry_of(entries, name)
    if entry is None or entry[0] != "begin":
        return None
    return (entry[2], run_of(entries[: last_place(entries, entry)]))


def leftovers_of(entries):
    found = set()
    for at, entry in enumerate(entries):
        if entry[0] == "let":
            found.add(id_of(entries[:at], entry[1]))
        if entry[0] == "gone":
            found.remove(entry[1])
    return sorted(found)


def model_of(entries):
    names = sorted({part for entry in entries for part in entry[1:] if isinstance(part, str)})
    runs = [at for at, entry in enumerate(entries) if entry[0] == "run"]
    return {
        "run": run_of(entries),
        "bound": {name: id_of(entries, name) for name in names if id_of(entries, name) is not None},
        "begun": {name: begin_of(entries, name) for name in names if begin_of(entries, name) is not None},
        "leftovers": leftovers_of(entries),
        "moment": ([0] + [entry[3] for entry in entries if entry[0] in ("bind", "adopt")])[-1],
        "tokens": len([entry for entry in entries if entry[0] == "begin"]),
        "lets": len([entry for entry in entries[(runs or [0])[-1] :] if entry[0] == "let"]),
    }


def should_fit(entries, entry):
    model = model_of(entries)
    word, *parts = entry
    free = [part not in model["bound"] and part not in model["begun"] for part in parts]
    return {
        "run": lambda: parts[0] > model["run"],
        "begin": lambda: free[0] and parts[1] == model["tokens"],
        "bind": lambda: parts[0] in model["begun"] and parts[2] >= model["moment"],
        "adopt": lambda: free[0] and parts[2] >= model["moment"],
        "let": lambda: parts[0] in model["bound"],
        "lost": lambda: not free[0],
        "drop": lambda: parts[0] in model["begun"],
        "move": lambda: parts[0] in model["bound"] and free[1],
        "gone": lambda: parts[0] in model["leftovers"],
    }[word]()


class States(unittest.TestCase):
    def is_state(self, entries, **expected):
        """Checks a state; what is not told is as at first."""
        first = {"run": 0, "bound": {}, "begun": {}, "leftovers": [], "moment": 0, "tokens": 0, "lets": 0}
        for journal in (list(entries), tuple(entries)):
            self.assertEqual(attributes_of(State(journal)), {**first, **expected}, entries)
        self.assertEqual(model_of(list(entries)), {**first, **expected})

    def behind(self, *entries, **expected):
        """Checks the state behind these entries; what is not told is as in the beginning."""
        first = {"run": 2, "bound": {"a": 7}, "begun": {"b": (1, 2)}, "leftovers": [5]}
        first.update({"moment": 4, "tokens": 2, "lets": 1})
        self.is_state(BEGINNING + entries, **{**first, **expected})

    def do_not_fit(self, *entries):
        for entry in entries:
            self.assertFalse(fits(BEGINNING + (entry,)), entry)
            self.assertFalse(fits([*BEGINNING, entry, ("run", 9)]), entry)

    def test_nothing(self):
        self.is_state(())

    def test_each_entry(self):
        self.is_state((("run", 1),), run=1)
        self.is_state(BEGINNING[:2], run=2, begun={"a": (0, 2)}, tokens=1)
        self.is_state(BEGINNING[:3], run=2, begun={"a": (0, 2), "b": (1, 2)}, tokens=2)
        self.is_state(
            BEGINNING[:4], run=2, begun={"a": (0, 2), "b": (1, 2)}, tokens=2, bound={"d": 5}, moment=3
        )
        self.is_state(
            BEGINNING[:5], run=2, begun={"a": (0, 2), "b": (1, 2)}, tokens=2, leftovers=[5], moment=3, lets=1
        )
        self.behind()

    def test_sorts_of_attributes(self):
        for entries in ((), BEGINNING):
            state = State(entries)
            sorts = [type(getattr(state, name)) for name in ATTRIBUTES]
            self.assertEqual(sorts, [int, dict, dict, list, int, int, int])

    def test_run(self):
        self.behind(("run", 3), run=3, lets=0)
        self.behind(("run", 4294967295), run=4294967295, lets=0)
        self.do_not_fit(("run", 2), ("run", 1), ("run", 0), ("run", -1))
        self.assertFalse(fits([("run", 0)]))
        self.behind(("run", 3), ("let", "a"), run=3, lets=1, bound={}, leftovers=[5, 7])

    def test_begin(self):
        self.behind(("begin", "c", 2), begun={"b": (1, 2), "c": (2, 2)}, tokens=3)
        self.behind(("run", 8), ("begin", "d", 2), run=8, lets=0, begun={"b": (1, 2), "d": (2, 8)}, tokens=3)
        self.do_not_fit(*[("begin", name, 2) for name in ("a", "b")])
        self.do_not_fit(*[("begin", "c", k) for k in (-1, 0, 1, 3)])
        self.is_state((("begin", "a", 0),), begun={"a": (0, 0)}, tokens=1)
        self.assertFalse(fits([("begin", "a", 1)]))

    def test_tokens_are_never_less(self):
        self.behind(("drop", "b"), ("begin", "b", 2), ("lost", "b"), begun={}, tokens=3)
        self.do_not_fit(("begin", "c", 1))
        self.assertFalse(fits(BEGINNING + (("drop", "b"), ("begin", "b", 1))))

    def test_bind(self):
        for moment in (4, 5, 4294967295):
            self.behind(("bind", "b", 9, moment), bound={"a": 7, "b": 9}, begun={}, moment=moment)
        self.behind(("bind", "b", 5, 4), bound={"a": 7, "b": 5}, begun={})
        self.do_not_fit(("bind", "b", 9, 3), ("bind", "b", 9, 0), ("bind", "b", 9, -1))
        self.do_not_fit(("bind", "a", 7, 4), ("bind", "a", 9, 9), ("bind", "c", 9, 9), ("bind", "d", 5, 9))

    def test_adopt(self):
        for moment in (4, 5, 4294967295):
            self.behind(("adopt", "c", 9, moment), bound={"a": 7, "c": 9}, moment=moment)
        self.behind(("adopt", "d", 3, 4), bound={"a": 7, "d": 3})
        self.do_not_fit(("adopt", "c", 9, 3), ("adopt", "c", 9, 0))
        self.do_not_fit(("adopt", "a", 7, 4), ("adopt", "a", 9, 9), ("adopt", "b", 9, 9))

    def test_let(self):
        self.behind(("let", "a"), bound={}, leftovers=[5, 7], lets=2)
        self.behind(("adopt", "c", 2, 4), ("let", "c"), leftovers=[2, 5], lets=2)
        self.do_not_fit(("let", "b"), ("let", "c"), ("let", "d"), ("let", ""))
        self.assertFalse(fits(BEGINNING + (("let", "a"), ("let", "a"))))

    def test_leftovers_are_ascending_and_stand_once(self):
        entries = []
        for name, number in (("a", 30), ("b", 4), ("c", 100), ("d", 9), ("e", 30)):
            entries.append(("adopt", name, number, 0))
        for name in "abcde":
            entries.append(("let", name))
        self.is_state(entries, leftovers=[4, 9, 30, 100], lets=5)
        self.is_state(entries + [("gone", 30)], leftovers=[4, 9, 100], lets=5)

    def test_lost(self):
        self.behind(("lost", "a"), bound={})
        self.behind(("lost", "b"), begun={})
        self.do_not_fit(("lost", "c"), ("lost", "d"))

    def test_drop(self):
        self.behind(("drop", "b"), begun={})
        self.do_not_fit(("drop", "a"), ("drop", "c"), ("drop", "d"))

    def test_move(self):
        self.behind(("move", "a", "c"), bound={"c": 7})
        self.behind(("move", "a", "d"), ("move", "d", "a"))
        self.behind(("move", "a", "c"), ("begin", "a", 2), bound={"c": 7}, begun={"a": (2, 2), "b": (1, 2)}, tokens=3)
        self.do_not_fit(("move", "b", "c"), ("move", "c", "d"), ("move", "c", "a"))
        self.do_not_fit(("move", "a", "b"), ("move", "a", "a"))
        self.assertFalse(fits(BEGINNING + (("adopt", "c", 1, 4), ("move", "a", "c"))))

    def test_gone(self):
        self.behind(("gone", 5), leftovers=[])
        self.do_not_fit(("gone", 7), ("gone", 1), ("gone", 0))
        self.assertFalse(fits(BEGINNING + (("gone", 5), ("gone", 5))))

    def test_free_names_are_begun_and_adopted_again(self):
        for entry in (("let", "a"), ("lost", "a"), ("move", "a", "c")):
            self.assertTrue(fits(BEGINNING + (entry, ("begin", "a", 2), ("bind", "a", 8, 4))))
            self.assertTrue(fits(BEGINNING + (entry, ("adopt", "a", 8, 4))))
        for entry in (("lost", "b"), ("drop", "b")):
            self.assertTrue(fits(BEGINNING + (entry, ("begin", "b", 2))))
            self.assertFalse(fits(BEGINNING + (entry, ("bind", "b", 8, 4))))

    def test_all_short_journals(self):
        entries = (
            ("run", 1),
            ("run", 2),
            ("begin", "a", 0),
            ("begin", "a", 1),
            ("begin", "b", 1),
            ("bind", "a", 4, 1),
            ("bind", "b", 3, 0),
            ("adopt", "b", 2, 1),
            ("let", "a"),
            ("let", "b"),
            ("lost", "a"),
            ("drop", "b"),
            ("move", "a", "b"),
            ("move", "b", "a"),
            ("gone", 2),
            ("gone", 4),
        )
        journals = [()]
        for _ in range(6):
            longer = []
            for journal, entry in product(journals, entries):
                more = journal + (entry,)
                self.assertEqual(fits(more), should_fit(journal, entry), more)
                if fits(more):
                    self.assertEqual(state_of(*more), model_of(more), more)
                    longer.append(more)
            journals = longer if len(longer) < 3000 else longer[:: len(longer) // 1500]


class EntryForms(unittest.TestCase):
    right = (
        ("run", 3),
        ("begin", "c", 2),
        ("bind", "b", 8, 5),
        ("adopt", "c", 8, 5),
        ("let", "a"),
        ("lost", "a"),
        ("drop", "b"),
        ("move", "a", "c"),
        ("gone", 5),
    )

    def wrong(self, *entries):
        for entry in entries:
            for journal in ([entry], [*BEGINNING, entry], (*BEGINNING, entry, ("run", 9))):
                with self.assertRaises(InvalidJournal, msg=entry) as caught:
                    State(journal)
                self.assertIsInstance(caught.exception, LandError)
                with self.assertRaises(InvalidJournal, msg=entry):
                    next_run(journal)

    def test_right_forms(self):
        for entry in self.right:
            self.assertTrue(fits(BEGINNING + (entry,)), entry)

    def test_no_tuples_and_no_words(self):
        self.wrong(None, 0, True, "", "run", (), [], {}, b"run", ("",), (None,), ((),), (("run", 3),))
        for entry in self.right:
            self.wrong(list(entry), dict.fromkeys(entry), entry[:1], (entry,), str(entry))
            for word in ("", "Run", "run ", "fence", "make", "take", None, 3, True, b"run", ("run",), ["run"], {}):
                self.wrong((word,) + entry[1:])

    def test_number_of_parts(self):
        for entry in self.right:
            self.wrong(*[entry[:many] for many in range(len(entry))])
            self.wrong(*[entry + (part,) for part in (None, 0, "", entry[-1])])
            self.wrong(*[entry[:at] + entry[at + 1 :] for at in range(len(entry))])

    def test_sorts_of_parts(self):
        for entry in self.right:
            for at in range(1, len(entry)):
                parts = [None, True, False, (), (1,), [1], {}, b"a", 1.0, ("a",)]
                parts.append(str(entry[at]) if isinstance(entry[at], int) else 5)
                self.wrong(*[entry[:at] + (part,) + entry[at + 1 :] for part in parts])

    def test_true_is_not_one_and_false_is_not_zero(self):
        begun = (("begin", "a", 0), ("adopt", "c", 1, 0), ("let", "c"))
        for right in (("run", 1), ("begin", "b", 1), ("bind", "a", 1, 0), ("adopt", "b", 0, 1), ("gone", 1)):
            self.assertTrue(fits(begun + (right,)))
            for at in range(1, len(right)):
                if isinstance(right[at], int):
                    self.assertFalse(fits(begun + (right[:at] + (bool(right[at]),) + right[at + 1 :],)), right)
                    self.assertFalse(fits(begun + (right[:at] + (float(right[at]),) + right[at + 1 :],)), right)

    def test_words_of_other_entries(self):
        for entry, other in product(self.right, repeat=2):
            sorts = [[type(part) for part in parts[1:]] for parts in (entry, other)]
            if sorts[0] != sorts[1]:
                self.wrong((other[0],) + entry[1:])


class NextRun(unittest.TestCase):
    def test_empty_journal(self):
        self.assertEqual(next_run([]), ("run", 1))
        self.assertEqual(next_run(()), ("run", 1))

    def test_other_journals(self):
        self.assertEqual(next_run(BEGINNING), ("run", 3))
        self.assertEqual(next_run(list(BEGINNING)), ("run", 3))
        self.assertEqual(next_run([("run", 1), ("run", 40), ("begin", "a", 0)]), ("run", 41))
        self.assertEqual(next_run([("adopt", "a", 9, 9), ("let", "a")]), ("run", 1))

    def test_next_runs_fit(self):
        journal = []
        for n in range(1, 20):
            self.assertEqual(next_run(journal), ("run", n))
            self.assertFalse(fits(journal + [("run", n - 1)]))
            journal.append(next_run(journal))

    def test_journals_that_do_not_fit(self):
        for journal in ([("run", 0)], [("run", 2), ("run", 2)], [("let", "a")], [("begin", "a", 1), ("run", 1)]):
            with self.assertRaises(InvalidJournal):
                next_run(journal)


if __name__ == "__main__":
    unittest.main()
