"""An outside: living things, and the calls and deeds of others that change them."""

from settledland.errors import InvalidCall
from settledland.forms import is_call, is_deed
from settledland.limits import NUMBERS

DONE = ("done",)


class Outside:
    """An outside without things; kinds is a dict as in a Land."""

    def __init__(self, kinds):
        self._kinds = {kind: dict(fields) for kind, fields in kinds.items()}
        self._begin((0, (), (), ()))

    def _begin(self, look):
        moment, fences, things, spent = look
        self._moment = moment
        self._fences = dict(fences)
        # From ids to the tuples that a look shows.
        self._things = {thing[0]: thing for thing in things}
        self._spent = {token: True for token in spent}
        # To give an id took a moment: no greater one than this can have been given.
        self._greatest_id = max([moment] + list(self._things))
        self._calls = 0

    def do(self, call):
        """Does a call, or not; returns the answer. Raises InvalidCall."""
        if not is_call(call):
            raise InvalidCall("this has another form than calls have")
        before = self._moment
        answer = self._answer_to(call)
        if self._moment > before:
            self._calls += 1
        return answer

    def make(self, kind, values):
        """Makes a thing as others do; returns the answer."""
        _check_deed("make", (kind, values))
        return self._make((), kind, values)

    def change(self, id_of_thing, field, value):
        """Changes a value as others do; returns the answer."""
        _check_deed("change", (id_of_thing, field, value))
        return self._change(id_of_thing, None, field, value)

    def take(self, id_of_thing):
        """Takes a thing away as others do; returns the answer."""
        _check_deed("take", (id_of_thing,))
        return self._take(id_of_thing, None)

    def look(self):
        """Returns the look: a tuple (moment, fences, things, spent)."""
        fences = tuple(sorted(self._fences.items()))
        things = tuple([self._things[id_of_thing] for id_of_thing in sorted(self._things)])
        return (self._moment, fences, things, tuple(sorted(self._spent)))

    def calls(self):
        """Returns how many calls were done and changed something."""
        return self._calls

    def _answer_to(self, call):
        word, (owner, run), *rest = call
        if word == "fence":
            return self._raise_fence(owner, run)
        if run < self._fences.get(owner, 0):
            return ("refused", "old")
        if word == "make":
            token, kind, values = rest
            return DONE if self._was_used(token) else self._make(token, kind, values)
        if word == "change":
            id_of_thing, version, field, value = rest
            return self._change(id_of_thing, version, field, value)
        id_of_thing, version = rest
        return self._take(id_of_thing, version)

    def _raise_fence(self, owner, run):
        if self._fences.get(owner, 0) < run:
            self._fences[owner] = run
            self._moment += 1
        return DONE

    def _was_used(self, token):
        return token in self._spent or token in [thing[5] for thing in self._things.values()]

    def _make(self, token, kind, values):
        why = self._why_not_make(kind, values)
        if why != "":
            return ("refused", why)
        self._greatest_id += 1
        id_of_thing = self._greatest_id
        self._things[id_of_thing] = (id_of_thing, kind, values, 1, 1000 + 7 * id_of_thing, token)
        self._moment += 1
        return DONE

    def _change(self, id_of_thing, version, field, value):
        why = self._why_not_change(id_of_thing, version, field, value)
        if why != "":
            return ("refused", why)
        _, kind, values, version_now, told, token = self._things[id_of_thing]
        values = tuple([(name, value if name == field else other) for name, other in values])
        self._things[id_of_thing] = (id_of_thing, kind, values, version_now + 1, told, token)
        self._moment += 1
        return DONE

    def _take(self, id_of_thing, version):
        why = self._why_not_reach(id_of_thing, version)
        if why == "" and self._is_needed(id_of_thing):
            why = "needed"
        if why != "":
            return ("refused", why)
        token = self._things[id_of_thing][5]
        if token != ():
            self._spent[token] = True
        del self._things[id_of_thing]
        self._moment += 1
        return DONE

    def _why_not_make(self, kind, values):
        # Looked for in a list, since a kind may be anything, also what no dict can be asked for.
        if kind not in list(self._kinds):
            return "form"
        if [field for field, _ in values] != sorted(self._kinds[kind]):
            return "form"
        # No thing has the id 0: all things are other ones than the new one.
        return self._why_not_bear(0, kind, values)

    def _why_not_change(self, id_of_thing, version, field, value):
        why = self._why_not_reach(id_of_thing, version)
        if why != "":
            return why
        kind = self._things[id_of_thing][1]
        fields = self._kinds[kind]
        if field not in fields or "fixed" in fields[field][1]:
            return "form"
        return self._why_not_bear(id_of_thing, kind, ((field, value),))

    def _why_not_reach(self, id_of_thing, version):
        # The version is None for others, who need not know it.
        if id_of_thing not in self._things:
            return "gone"
        if version is not None and version != self._things[id_of_thing][3]:
            return "stale"
        return ""

    def _why_not_bear(self, id_of_thing, kind, values):
        """Returns why a thing of this kind cannot have these values, or the empty string."""
        fields = self._kinds[kind]
        for field, value in values:
            if not _fits(value, fields[field]):
                return "form"
        filled = [pair for pair in values if pair[1] is not None]
        for field, value in filled:
            target, _ = fields[field]
            if target != "" and not self._lives(value, target):
                return "need"
        for field, value in filled:
            _, marks = fields[field]
            if "single" in marks and self._is_borne(id_of_thing, kind, field, value):
                return "taken"
        return ""

    def _lives(self, id_of_thing, kind):
        return id_of_thing in self._things and self._things[id_of_thing][1] == kind

    def _is_borne(self, id_of_thing, kind, field, value):
        """Tells whether another thing of the kind has this value in this field."""
        others = [thing for thing in self._things.values() if thing[0] != id_of_thing and thing[1] == kind]
        return any([(field, value) in thing[2] for thing in others])

    def _is_needed(self, id_of_thing):
        return any([id_of_thing in self._needs_of(thing) for thing in self._things.values()])

    def _needs_of(self, thing):
        _, kind, values, _, _, _ = thing
        return [value for field, value in values if self._kinds[kind][field][0] != ""]


def _fits(value, form):
    """Tells whether this can be a value in a field with this target and these marks."""
    target, marks = form
    if value is None:
        return "empty" in marks
    return target != "" or 0 <= value < NUMBERS


def _check_deed(word, parts):
    if not is_deed(word, parts):
        raise InvalidCall("this has another form than deeds of others have")


def outside_of(kinds, look):
    """Returns an Outside whose look this is."""
    outside = Outside(kinds)
    outside._begin(look)
    return outside
