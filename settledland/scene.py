"""The steps 1 to 7 of the decider: what it finds before it looks for a call."""

from settledland.errors import InvalidJournal
from settledland.journal import State
from settledland.newness import lets_of
from settledland.sight import Sight


class Scene:
    """A land, an owner, a state and a look, with the entries and the lets that are found."""

    def __init__(self, land, owner, entries, look):
        self.land = land
        self.owner = owner
        self.state = State(entries)
        self.sight = Sight(land.kinds, look)
        self.mark = (owner, self.state.run)
        self.entries = []
        self.found_lets = []

    def tell(self, entry):
        """Adds an entry, which counts for the state from now on."""
        self.state.enter(entry)
        self.entries.append(entry)

    def is_old(self):
        """Tells whether the look is older than the journal."""
        return self.sight.moment < self.state.moment

    def result_ahead(self):
        """Returns the result of the steps 1 and 2, or None."""
        if self.is_old():
            return ("old look",)
        fence = self.sight.fences.get(self.owner, 0)
        if fence > self.state.run:
            return ("overtaken",)
        if fence < self.state.run:
            return ("fence", self.mark)
        return None

    def find_facts(self):
        """Does the steps 3 to 6."""
        self._find_begun()
        self._find_gone()
        self._find_moved()
        self._find_adopted()

    def find_lets(self):
        """Does the step 7; returns its result, or None."""
        told = len(self.entries)
        found = lets_of(self.land, self.state.bound, self.sight.things)
        while found:
            for name, reason in found.items():
                self.tell(("let", name))
                self.found_lets.append((name, reason))
            self._find_adopted()
            found = lets_of(self.land, self.state.bound, self.sight.things)
        barred = self._barred()
        if barred is not None:
            del self.entries[told:]
            self.found_lets = []
        return barred

    def _find_begun(self):
        for name in sorted(self.state.begun):
            number, run = self.state.begun[name]
            token = (self.owner, number)
            if token in self.sight.made:
                self.tell(("bind", name, self.sight.made[token], self.sight.moment))
            elif token in self.sight.spent:
                self.tell(("lost", name))
            elif run < self.state.run:
                self.tell(("drop", name))

    def _find_gone(self):
        for name in sorted(self.state.bound):
            if self.state.bound[name] not in self.sight.things:
                self.tell(("lost", name))
        for id_of_thing in list(self.state.leftovers):
            if id_of_thing not in self.sight.things:
                self.tell(("gone", id_of_thing))

    def _find_moved(self):
        for new in sorted(self.land.moves):
            old = self.land.moves[new]
            if old in self.state.bound and self._is_free(new):
                self.tell(("move", old, new))

    def _find_adopted(self):
        for name in sorted(self.land.adopts):
            if self._is_free(name) and self._can_be_adopted(self.land.adopts[name], name):
                self.tell(("adopt", name, self.land.adopts[name], self.sight.moment))

    def _is_free(self, name):
        return name not in self.state.bound and name not in self.state.begun

    def _can_be_adopted(self, id_of_thing, name):
        if id_of_thing not in self.sight.things:
            return False
        if id_of_thing in self.state.leftovers or id_of_thing in list(self.state.bound.values()):
            return False
        _, kind, _, _, _, token = self.sight.things[id_of_thing]
        return token == () and kind == self.land.things[name][0]

    def _barred(self):
        kept = sorted([name for name, _ in self.found_lets if name in self.land.keeps])
        if kept:
            return ("barred", "keep", kept[0])
        # The state has counted the lets ahead of this step and those of it.
        if self.land.most is not None and self.state.lets > self.land.most:
            return ("barred", "most", self.state.lets)
        return None


def scene_of(land, owner, entries, look):
    """Returns the Scene of a journal that has a run. Raises InvalidJournal."""
    scene = Scene(land, owner, entries, look)
    if scene.state.run == 0:
        raise InvalidJournal("the journal has no run")
    return scene
