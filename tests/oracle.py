"""A decider, written apart from the program: it goes by the words of the document, step by
step, keeps nothing laid out, and finds the lets by going through all sets of names when
there are few, otherwise by peeling off names that have no reason left."""

from itertools import combinations

from settledland.journal import State

UNKNOWN = object()
MODULUS = 2**32


def need_of(value):
    return value[1] if value[0] in ("name", "told") else None


class Oracle:
    def __init__(self, land, owner, entries, look):
        self.land, self.owner, self.entries = land, owner, list(entries)
        self.told = []
        self.moment, self.fences, things, self.spent = look
        self.living = {
            thing[0]: {
                "kind": thing[1], "values": dict(thing[2]), "version": thing[3], "told": thing[4], "token": thing[5]
            }
            for thing in things
        }
        self.reasons = []

    @property
    def state(self):
        return State(self.entries + self.told)

    def thing_of(self, name):
        return self.living[self.state.bound[name]]

    def want(self, name, field, bound):
        word, *rest = self.land.things[name][1][field]
        if word == "number":
            return rest[0]
        if word == "none":
            return None
        if rest[0] not in bound:
            return UNKNOWN
        if word == "name":
            return bound[rest[0]]
        return (self.living[bound[rest[0]]]["told"] + rest[1]) % MODULUS

    def reason(self, name, bound, others):
        """The reason of a name, if all these others are lets; or None."""
        if name not in self.land.things:
            return ("removed",)
        kind, values = self.land.things[name]
        if self.living[bound[name]]["kind"] != kind:
            return ("kind",)
        for field, (_, marks) in sorted(self.land.kinds[kind].items()):
            if "fixed" in marks:
                need = need_of(values[field])
                if need is not None and (need not in bound or need in others):
                    return ("through", field, need)
                if self.want(name, field, bound) != self.living[bound[name]]["values"][field]:
                    return ("fixed", field)
        return None

    def lets(self, bound):
        """The least set such that each name with a reason, by this set, is in it."""
        if len(bound) <= 5:
            for size in range(len(bound) + 1):
                for names in combinations(sorted(bound), size):
                    if all((self.reason(name, bound, names) is None) == (name not in names) for name in bound):
                        return {name: self.reason(name, bound, names) for name in names}
        names = ()
        while True:
            more = tuple(name for name in sorted(bound) if self.reason(name, bound, names))
            if more == names:
                return {name: self.reason(name, bound, names) for name in names}
            names = more

    def adopt(self):
        for name in sorted(self.land.adopts):
            number, state = self.land.adopts[name], self.state
            if (
                name not in state.bound
                and name not in state.begun
                and number in self.living
                and self.living[number]["token"] == ()
                and self.living[number]["kind"] == self.land.things[name][0]
                and number not in state.bound.values()
                and number not in state.leftovers
            ):
                self.told.append(("adopt", name, number, self.moment))

    def facts(self):
        tokens = {thing["token"]: number for number, thing in self.living.items()}
        for name, (k, run) in sorted(self.state.begun.items()):
            if (self.owner, k) in tokens:
                self.told.append(("bind", name, tokens[self.owner, k], self.moment))
            elif (self.owner, k) in self.spent:
                self.told.append(("lost", name))
            elif run != self.state.run:
                self.told.append(("drop", name))
        for name, number in sorted(self.state.bound.items()):
            if number not in self.living:
                self.told.append(("lost", name))
        for number in self.state.leftovers:
            if number not in self.living:
                self.told.append(("gone", number))
        for new, old in sorted(self.land.moves.items()):
            if old in self.state.bound and new not in self.state.bound and new not in self.state.begun:
                self.told.append(("move", old, new))
        self.adopt()

    def let(self):
        """Step 7; the result, or None."""
        before, keep_told = self.state.lets, list(self.told)
        while True:
            found = self.lets(self.state.bound)
            if not found:
                break
            self.told.extend(("let", name) for name in sorted(found))
            self.reasons.extend(sorted(found.items()))
            self.adopt()
        kept = {name for name, _ in self.reasons} & set(self.land.keeps)
        result = None
        if kept:
            result = ("barred", "keep", min(kept))
        elif self.land.most is not None and before + len(self.reasons) > self.land.most:
            result = ("barred", "most", before + len(self.reasons))
        if result:
            self.told, self.reasons = keep_told, []
        return result

    def bearers(self, kind, field, value, but=None):
        """The other things for which a value is not free."""
        if value is None or "single" not in self.land.kinds[kind][field][1]:
            return []
        return [
            number
            for number, thing in sorted(self.living.items())
            if number != but and thing["kind"] == kind and thing["values"][field] == value
        ]

    def needers(self, number):
        return [
            other
            for other, thing in sorted(self.living.items())
            for field, value in thing["values"].items()
            if self.land.kinds[thing["kind"]][field][0] and value == number
        ]

    def places(self):
        """All bound names with all their fields, in order: (name, id, kind, field, value, want)."""
        bound = self.state.bound
        return [
            (name, bound[name], thing["kind"], field, thing["values"][field], self.want(name, field, bound))
            for name, thing in sorted((name, self.living[number]) for name, number in bound.items())
            for field in sorted(thing["values"])
        ] if len(set(bound.values())) == len(bound) else None

    @property
    def mark(self):
        return (self.owner, self.state.run)

    def change(self, number, field, value):
        return ("change", self.mark, number, self.living[number]["version"], field, value)

    def marks(self, kind, field):
        return self.land.kinds[kind][field][1]

    def changes(self):
        return [
            self.change(number, field, want)
            for _, number, kind, field, value, want in self.places()
            if "fixed" not in self.marks(kind, field)
            and want is not UNKNOWN
            and want != value
            and not self.bearers(kind, field, want, number)
        ]

    def unbound(self):
        return [name for name in sorted(self.land.things) if name not in self.state.bound]

    def makes(self):
        """The names that can be made, with the values."""
        found = []
        for name in self.unbound():
            kind, values = self.land.things[name]
            wants = [(field, self.want(name, field, self.state.bound)) for field in sorted(values)]
            if all(want is not UNKNOWN and not self.bearers(kind, field, want) for field, want in wants):
                found.append((name, kind, tuple(wants)))
        return found

    def begin(self, name, kind, wants):
        """The make of a name, whose begin is told if there is none."""
        if name not in self.state.begun:
            self.told.append(("begin", name, self.state.tokens))
        return ("make", self.mark, (self.owner, self.state.begun[name][0]), kind, wants)

    def takes(self):
        return [
            ("take", self.mark, number, self.living[number]["version"])
            for number in self.state.leftovers
            if not self.needers(number)
        ]

    def in_the_way(self, kind, field, value, but):
        target, marks = self.land.kinds[kind][field]
        if target:
            return value in self.state.leftovers
        if "single" not in marks:
            return False
        for name, (other_kind, _) in self.land.things.items():
            if name != but and other_kind == kind and self.want(name, field, self.state.bound) == value:
                if name not in self.state.bound or self.thing_of(name)["values"][field] != value:
                    return True
        return False

    def clearings(self):
        found = []
        rows = list(self.places())
        for number in self.state.leftovers:
            thing = self.living[number]
            rows.extend(
                (None, number, thing["kind"], field, thing["values"][field], None) for field in sorted(thing["values"])
            )
        for name, number, kind, field, value, want in rows:
            if "fixed" in self.marks(kind, field) or "empty" not in self.marks(kind, field):
                continue
            if value is not None and not (name and value == want) and self.in_the_way(kind, field, value, name):
                found.append(self.change(number, field, None))
        return found

    def paper(self):
        lines = []
        for name, number, kind, field, value, want in self.places():
            if want is UNKNOWN:
                lines.append(("change", name, field, ("wait", need_of(self.land.things[name][1][field]))))
            elif want != value:
                lines.append(("change", name, field, ("borne", min(self.bearers(kind, field, want, number)))))
        for name in self.unbound():
            kind, values = self.land.things[name]
            for field in sorted(values):
                want = self.want(name, field, self.state.bound)
                if want is UNKNOWN:
                    lines.append(("make", name, ("wait", field, need_of(values[field]))))
                    break
                if self.bearers(kind, field, want):
                    lines.append(("make", name, ("borne", field, min(self.bearers(kind, field, want)))))
                    break
        lines.extend(("take", number, ("needed", min(self.needers(number)))) for number in self.state.leftovers)
        return tuple(lines)

    def ahead(self):
        """Steps 1 to 7; the result, or None."""
        fence = dict(self.fences).get(self.owner, 0)
        if self.moment < self.state.moment:
            return ("old look",)
        if fence != self.state.run:
            return ("overtaken",) if fence > self.state.run else ("fence", self.mark)
        self.facts()
        return self.let()

    def at_last(self):
        """Step 9."""
        bound = self.state.bound
        if not self.unbound() and not self.state.leftovers:
            if all(value == want for _, _, _, _, value, want in self.places()):
                return ("settled",)
        return ("stuck", self.paper())

    def decide(self):
        result = self.ahead()
        if result is None:
            if self.changes():
                result = self.changes()[0]
            elif self.makes():
                result = self.begin(*self.makes()[0])
            elif self.takes():
                result = self.takes()[0]
            elif self.clearings():
                result = self.clearings()[0]
            else:
                result = self.at_last()
        return (tuple(self.told), result)

    def decide_round(self):
        result = self.ahead()
        if result is not None:
            return (tuple(self.told), (result,))
        calls, seen = [], set()
        for call in self.changes():
            if call[2] not in seen:
                calls.append(call)
            seen.add(call[2])
        makes = self.makes()
        calls.extend(self.begin(*row) for row in makes)
        calls.extend(self.takes())
        calls = calls or self.clearings()[:1] or [self.at_last()]
        return (tuple(self.told), tuple(calls))


def oracle_decide(land, owner, entries, look):
    return Oracle(land, owner, entries, look).decide()


def oracle_round(land, owner, entries, look):
    return Oracle(land, owner, entries, look).decide_round()
