"""Drawn lands, and drawn stories: decisions with new and old looks, calls that are done at
once, later, more than once or never, deeds of others, and new runs with other lands."""

import random

from settledland.decider import decide
from settledland.errors import InvalidLand
from settledland.journal import next_run
from settledland.lands import Land
from settledland.outside import Outside

KINDS = (
    ("net", (("zone", "", ("fixed",)), ("tag", "", ("empty", "single")), ("code", "", ("single",)))),
    (
        "box",
        (
            ("via", "net", ("empty",)),
            ("port", "", ("empty", "single")),
            ("under", "box", ("empty", "fixed")),
            ("at", "net", ("fixed",)),
            ("size", "", ()),
        ),
    ),
    ("dot", (("of", "dot", ("empty",)), ("mark", "", ("empty", "fixed", "single")), ("near", "box", ("empty",)))),
)
NAMES = ("a", "b", "c", "d", "e", "f", "g")
CALLS = ("fence", "make", "change", "take")


class Drawer:
    """Draws lands of the kinds above."""

    def __init__(self, seed, bars=0.1):
        self.dice = random.Random(seed)
        self.bars = bars
        self.sums = (0, 0, 1, 4294966290)

    def chance(self, likely):
        return self.dice.random() < likely

    def value(self, target, marks, before):
        """Draws a value that hangs on none but the things before."""
        if "empty" in marks and self.chance(0.35):
            return ("none",)
        if target:
            names = [name for name, kind in before if kind == target]
            return ("name", self.dice.choice(names)) if names else ("none",)
        if before and self.chance(0.25):
            return ("told", self.dice.choice(before)[0], self.dice.choice(self.sums))
        return ("number", self.dice.randrange(5))

    def values(self, kind, before):
        return {field: self.value(target, marks, before) for field, target, marks in dict(KINDS)[kind]}

    def things(self, many):
        names = self.dice.sample(NAMES, many)
        before, things = [], []
        for name in names:
            kind = self.dice.choice(("net", "net", "box", "box", "dot"))
            things.append((name, kind, self.values(kind, before)))
            before.append((name, kind))
        return things

    def changed(self, things):
        """Draws things that are like these, in an order in which they hang on those before."""
        found, before = [], []
        for name, kind, values in things:
            if self.chance(0.12):
                continue
            values = dict(values)
            for field, target, marks in dict(KINDS)[kind]:
                hangs = values[field][0] in ("name", "told") and values[field][1] not in [other for other, _ in before]
                if hangs or self.chance(0.15):
                    values[field] = self.value(target, marks, before)
            found.append((name, kind, values))
            before.append((name, kind))
        for name in NAMES:
            if name not in [other for other, _ in before] and self.chance(0.1):
                kind = self.dice.choice(("net", "box", "dot"))
                found.append((name, kind, self.values(kind, before)))
                before.append((name, kind))
        return found

    def renamed(self, things):
        """Draws other names for some of these things; returns them and the moves."""
        names = [name for name, _, _ in things]
        free = [name for name in NAMES if name not in names]
        table = {}
        for name in names:
            if free and self.chance(0.2):
                table[name] = free.pop()
        found = []
        for name, kind, values in things:
            values = {
                field: (value[0], table.get(value[1], value[1]), *value[2:]) if value[0] in ("name", "told") else value
                for field, value in values.items()
            }
            found.append((table.get(name, name), kind, values))
        return found, [("move", old, new) for old, new in table.items()]

    def items(self, things, ids):
        found = []
        for name, kind, _ in self.dice.sample(things, len(things)):
            if ids and self.chance(0.35):
                right = [number for number, other in ids.items() if other == kind]
                number = self.dice.choice(right if right and self.chance(0.8) else sorted(ids))
                found.append(("adopt", number, name))
                del ids[number]
            if self.chance(self.bars):
                found.append(("keep", name))
        if self.chance(self.bars):
            found.append(("most", self.dice.randrange(4)))
        return found

    def land(self, first=None, ids=None):
        """Draws a land; like the first one, if there is one, and with some moves; ids are
        those of things that it may adopt,
        with their kinds."""
        while True:
            moves = []
            if first is None or self.chance(0.1):
                things = self.things(self.dice.randrange(1, 7))
            else:
                things = self.changed([(name, kind, values) for name, (kind, values) in in_order(first)])
                things, moves = self.renamed(things)
            items = [("thing", name, None, kind, tuple(values.items())) for name, kind, values in things]
            try:
                return Land((KINDS, tuple(items + moves + self.items(things, dict(ids or {})))))
            except InvalidLand:
                continue


def in_order(land):
    """Returns the things of a land in an order in which they hang on those before."""
    found = {}
    while len(found) < len(land.things):
        for name, (kind, values) in land.things.items():
            if name not in found and all(v[0] not in ("name", "told") or v[1] in found for v in values.values()):
                found[name] = (kind, values)
    return list(found.items())


class Owner:
    """An owner with a land and a journal."""

    def __init__(self, number, land):
        self.number = number
        self.land = land
        self.journal = []
        self.lands = {}
        self.told = []


class Story:
    """An outside in which owners live together with others; how it goes is drawn. Those who
    want to look at it give functions that are called behind each event."""

    def __init__(self, seed, owners=(5,), bars=0.1):
        self.drawer = Drawer(seed, bars)
        self.dice = self.drawer.dice
        self.chance = self.drawer.chance
        first = self.drawer.land()
        self.kinds = first.kinds
        self.outside = Outside(first.kinds)
        self.looks = [self.outside.look()]
        self.owners = [Owner(number, first if at == 0 else self.drawer.land()) for at, number in enumerate(owners)]
        self.history = []  # all calls and deeds that changed anything: (moment, owner, call)
        for owner in self.owners:
            self.run(owner, owner.land)

    def run(self, owner, land):
        owner.land = land
        owner.journal.append(next_run(owner.journal))
        owner.lands[owner.journal[-1][1]] = land

    def new_run(self, owner):
        ids = {1: "net", 2: "box"}
        ids.update((thing[0], thing[1]) for thing in self.look()[2] if thing[5] == () or self.chance(0.1))
        self.run(owner, self.drawer.land(owner.land, ids))

    def look(self):
        look = self.outside.look()
        if look != self.looks[-1]:
            self.looks.append(look)
        return look

    def decide(self, owner, look):
        entries, result = decide(owner.land, owner.number, owner.journal, look)
        owner.journal.extend(entries)
        if result[0] in CALLS:
            owner.told.append(result)
        return entries, result

    def do(self, owner, call):
        before = self.look()
        answer = self.outside.do(call)
        if self.look() != before:
            self.history.append((before, owner.number, call))
        return answer

    def deed(self):
        """Others do something."""
        moment, _, things, _ = before = self.look()
        word = self.dice.choice(("make", "change", "change", "take"))
        if word == "make" or not things:
            kind = self.dice.choice(("net", "box", "dot"))
            pairs = [(field, self.deed_value(target, marks)) for field, target, marks in dict(KINDS)[kind]]
            self.outside.make(kind, tuple(sorted(pairs)))
        else:
            number, kind, _, _, _, _ = self.dice.choice(things)
            if word == "take":
                self.outside.take(number)
            else:
                field, target, marks = self.dice.choice(dict(KINDS)[kind])
                self.outside.change(number, field, self.deed_value(target, marks))
        if self.look() != before:
            self.history.append((before, None, None))

    def deed_value(self, target, marks):
        if "empty" in marks and self.chance(0.4):
            return None
        ids = [thing[0] for thing in self.look()[2] if thing[1] == target]
        if target:
            return self.dice.choice(ids) if ids else None
        return self.dice.choice((0, 1, 2, 3, 4, 1007, 1014, 1021))

    def event(self):
        """Lets one thing happen; returns the owner and what was told, if anything was."""
        owner = self.dice.choice(self.owners)
        roll = self.dice.random()
        if roll < 0.62:
            look = self.look()
            if self.chance(0.25):
                look = self.dice.choice(self.looks[-6:])
            _, result = self.decide(owner, look)
            if result[0] in CALLS and self.chance(0.7):
                self.do(owner, result)
        elif roll < 0.78 and owner.told:
            self.do(owner, self.dice.choice(owner.told[-8:]))
        elif roll < 0.93:
            self.deed()
        else:
            self.new_run(owner)
