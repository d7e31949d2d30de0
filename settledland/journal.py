"""What is known by a journal."""

from settledland.errors import InvalidJournal
from settledland.forms import is_entry


class State:
    """The state of a journal. Raises InvalidJournal if an entry has none of the forms, or
    does not fit."""

    def __init__(self, entries):
        self.run = 0
        self.bound = {}
        self.begun = {}
        self.leftovers = []
        self.moment = 0
        self.tokens = 0
        self.lets = 0
        for entry in entries:
            self.enter(entry)

    def enter(self, entry):
        """Goes on to the state behind one entry more. Raises InvalidJournal."""
        if not is_entry(entry):
            raise InvalidJournal("an entry has none of the forms")
        if not self._fits(entry):
            raise InvalidJournal("an entry does not fit")
        self._follow(entry)

    def _is_free(self, name):
        return name not in self.bound and name not in self.begun

    def _fits(self, entry):
        word, first, *rest = entry
        if word == "run":
            return first > self.run
        if word == "begin":
            return self._is_free(first) and rest[0] == self.tokens
        if word == "bind":
            return first in self.begun and rest[1] >= self.moment
        if word == "adopt":
            return self._is_free(first) and rest[1] >= self.moment
        if word == "let":
            return first in self.bound
        if word == "lost":
            return not self._is_free(first)
        if word == "drop":
            return first in self.begun
        if word == "move":
            return first in self.bound and self._is_free(rest[0])
        return first in self.leftovers

    def _follow(self, entry):
        word, first, *rest = entry
        if word == "run":
            self.run = first
            self.lets = 0
        elif word == "begin":
            self.begun[first] = (rest[0], self.run)
            self.tokens += 1
        elif word in ("bind", "adopt"):
            self._set_free(first)
            self.bound[first] = rest[0]
            self.moment = rest[1]
        elif word == "let":
            self._leave(self.bound[first])
            self._set_free(first)
            self.lets += 1
        elif word in ("lost", "drop"):
            self._set_free(first)
        elif word == "move":
            self.bound[rest[0]] = self.bound[first]
            self._set_free(first)
        else:
            self.leftovers.remove(first)

    def _set_free(self, name):
        self.bound.pop(name, None)
        self.begun.pop(name, None)

    def _leave(self, id_of_thing):
        # Entries that fit may bind two names to one id: it is a leftover once.
        if id_of_thing not in self.leftovers:
            self.leftovers = sorted(self.leftovers + [id_of_thing])


def next_run(entries):
    """Returns the entry ("run", n) with the least n that fits. Raises InvalidJournal."""
    return ("run", State(entries).run + 1)
