"""What a look shows, laid out for the questions that the decider asks."""


class Sight:
    """A look at an outside with these kinds, a dict as in a Land."""

    def __init__(self, kinds, look):
        moment, fences, things, spent = look
        self.moment = moment
        self.fences = dict(fences)
        self.spent = {token: True for token in spent}
        self.things = things_by_id(look)
        # From the tokens of living things to their ids.
        self.made = {thing[5]: thing[0] for thing in things if thing[5] != ()}
        # From places (kind, field, number) of single fields, and from ids, to the ascending
        # ids of the things that have this number there, or refer to this thing.
        self._bearers = {}
        self._needers = {}
        for thing in things:
            self._add_thing(kinds, thing)

    def _add_thing(self, kinds, thing):
        id_of_thing, kind, values = thing[:3]
        filled = [pair for pair in values if pair[1] is not None]
        for field, value in filled:
            target, marks = kinds[kind][field]
            if target != "":
                self._needers.setdefault(value, []).append(id_of_thing)
            elif "single" in marks:
                self._bearers.setdefault((kind, field, value), []).append(id_of_thing)

    def kind(self, id_of_thing):
        """Returns the kind of a living thing."""
        return self.things[id_of_thing][1]

    def value(self, id_of_thing, field):
        """Returns the value that a living thing has in a field."""
        return dict(self.things[id_of_thing][2])[field]

    def version(self, id_of_thing):
        """Returns the version of a living thing."""
        return self.things[id_of_thing][3]

    def bearer(self, kind, field, value, but):
        """Returns the least living thing, but this one, for which a value is not free in a
        field of a kind; 0 if it is free."""
        others = [at for at in self._bearers.get((kind, field, value), []) if at != but]
        return others[0] if others else 0

    def needer(self, id_of_thing):
        """Returns the least living thing that refers to a thing, or 0."""
        needers = self._needers.get(id_of_thing, [])
        return needers[0] if needers else 0


def things_by_id(look):
    """Returns the dict from the ids of the living things of a look to these."""
    _, _, things, _ = look
    return {thing[0]: thing for thing in things}
