"""An outside, written apart from the program: it keeps the list of what was done, works
everything out from this list anew, and looks for all reasons of a refusal, not only for
the first one."""

ORDER = ("old", "used", "gone", "stale", "form", "need", "taken", "needed")


class Model:
    def __init__(self, kinds):
        self.kinds = kinds
        self.done = []

    def things(self):
        found = {}
        made = 0
        for word, *rest in self.done:
            if word == "make":
                made += 1
                token, kind, values = rest
                found[made] = {"kind": kind, "values": dict(values), "version": 1, "token": token}
            elif word == "change":
                id_of_thing, field, value = rest
                found[id_of_thing]["values"][field] = value
                found[id_of_thing]["version"] += 1
            elif word == "take":
                del found[rest[0]]
        return found

    def tokens(self):
        return [deed[1] for deed in self.done if deed[0] == "make" and deed[1] != ()]

    def fence(self, owner):
        return max([0] + [deed[2] for deed in self.done if deed[:2] == ("fence", owner)])

    def look(self):
        things = self.things()
        owners = sorted({deed[1] for deed in self.done if deed[0] == "fence"})
        return (
            len(self.done),
            tuple((owner, self.fence(owner)) for owner in owners),
            tuple(
                (
                    number,
                    thing["kind"],
                    tuple(sorted(thing["values"].items())),
                    thing["version"],
                    1000 + number * 7,
                    thing["token"],
                )
                for number, thing in sorted(things.items())
            ),
            tuple(sorted(set(self.tokens()) - {thing["token"] for thing in things.values()})),
        )

    def reasons(self, call):
        """Returns the list of all reasons for which a call is not done, in their order; the
        mark and the version of deeds of others are None."""
        if call[0] == "fence":
            return []
        found = set()
        if call[1] is not None and call[1][1] < self.fence(call[1][0]):
            found.add("old")
        if call[0] == "make":
            found.update(self.reasons_of_make(*call[2:]))
        elif call[2] not in self.things():
            found.add("gone")
        else:
            thing = self.things()[call[2]]
            if call[3] not in (None, thing["version"]):
                found.add("stale")
            if call[0] == "take":
                found.update(["needed"] if self.is_needed(call[2]) else [])
            else:
                found.update(self.reasons_of_change(thing["kind"], call[2], call[4], call[5]))
        return [why for why in ORDER if why in found]

    def is_needed(self, number):
        return number in [
            value
            for thing in self.things().values()
            for field, value in thing["values"].items()
            if self.kinds[thing["kind"]][field][0]
        ]

    def reasons_of_make(self, token, kind, values):
        found = ["used"] if token in self.tokens() else []
        if [field for field, _ in values] != sorted(self.kinds.get(kind, ["x"])) or kind not in self.kinds:
            found.append("form")
        for field, value in values:
            if field in self.kinds.get(kind, []):
                found.extend(self.reasons_of_value(kind, None, field, value))
        return found

    def reasons_of_change(self, kind, number, field, value):
        if field not in self.kinds[kind]:
            return ["form"]
        fixed = ["form"] if "fixed" in self.kinds[kind][field][1] else []
        return fixed + self.reasons_of_value(kind, number, field, value)

    def reasons_of_value(self, kind, number, field, value):
        target, marks = self.kinds[kind][field]
        things = self.things()
        if value is None:
            return [] if "empty" in marks else ["form"]
        if target:
            return [] if things.get(value, {"kind": None})["kind"] == target else ["need"]
        found = [] if value in range(2**32) else ["form"]
        for other, thing in things.items():
            if "single" in marks and other != number and thing["kind"] == kind and thing["values"][field] == value:
                found.append("taken")
        return found

    def answer(self, call):
        """Returns the answer to a call or a deed, without doing it."""
        why = self.reasons(call)
        return ("refused", why[0]) if why and why[0] != "used" else ("done",)

    def do(self, call):
        """Does a call or a deed, or not; returns the answer."""
        if self.reasons(call):
            return self.answer(call)
        if call[0] == "fence":
            owner, run = call[1]
            if run > self.fence(owner):
                self.done.append(("fence", owner, run))
        elif call[0] == "make":
            self.done.append(("make", call[2] or (), call[3], call[4]))
        elif call[0] == "change":
            self.done.append(("change", call[2], call[4], call[5]))
        else:
            self.done.append(("take", call[2]))
        return ("done",)
