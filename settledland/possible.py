"""The step 8 of the decider: the calls that are possible in a Scene behind the step 7. Each
of them is told as a pair (whom, call), where whom is the name for which it is, or the id of
a leftover."""

from settledland.wants import waits_for, want_of


def first_possible(scene):
    """Returns the list of the first call that is possible, which is empty if none is."""
    return (changes(scene) or makes(scene) or takes(scene) or clearings(scene))[:1]


def changes(scene):
    """Returns all calls that are possible by 8a, in order."""
    rows = []
    for name in sorted(scene.state.bound):
        kind, values = scene.land.things[name]
        id_of_thing = scene.state.bound[name]
        for field in _open_fields(scene, kind):
            if waits_for(values[field], scene.state.bound) != "":
                continue
            want = known_want(scene, values[field])
            if want != scene.sight.value(id_of_thing, field) and _is_free(scene, kind, field, want, id_of_thing):
                rows.append((name, _change(scene, id_of_thing, field, want)))
    return rows


def makes(scene):
    """Returns all calls that are possible by 8b, in order, with the tokens that they have if
    all of them are told."""
    rows = []
    tokens = scene.state.tokens
    for name in sorted(scene.land.things):
        if name in scene.state.bound or not _can_be_made(scene, name):
            continue
        number = tokens
        if name in scene.state.begun:
            number, _ = scene.state.begun[name]
        else:
            tokens += 1
        kind, values = scene.land.things[name]
        wants = tuple([(field, known_want(scene, values[field])) for field in sorted(values)])
        rows.append((name, ("make", scene.mark, (scene.owner, number), kind, wants)))
    return rows


def takes(scene):
    """Returns all calls that are possible by 8c, in order."""
    return [
        (id_of_thing, ("take", scene.mark, id_of_thing, scene.sight.version(id_of_thing)))
        for id_of_thing in scene.state.leftovers
        if scene.sight.needer(id_of_thing) == 0
    ]


def clearings(scene):
    """Returns all calls that are possible by 8d, in order."""
    sought = _sought_places(scene)
    bound = scene.state.bound
    owned = [(name, bound[name]) for name in sorted(bound)]
    owned.extend([(id_of_thing, id_of_thing) for id_of_thing in scene.state.leftovers])
    rows = []
    for whom, id_of_thing in owned:
        kind = scene.sight.kind(id_of_thing)
        for field in _open_fields(scene, kind):
            if "empty" not in scene.land.kinds[kind][field][1]:
                continue
            if whom in bound and _has_want(scene, whom, field):
                continue
            if _stands_in_the_way(scene, sought, kind, field, scene.sight.value(id_of_thing, field)):
                rows.append((whom, _change(scene, id_of_thing, field, None)))
    return rows


def begin(scene, rows):
    """Tells the entries begin of these calls, those of makes whose names are not begun."""
    for whom, call in rows:
        if call[0] == "make" and whom not in scene.state.begun:
            _, number = call[2]
            scene.tell(("begin", whom, number))


def known_want(scene, value):
    """Returns the want of a value of the land, which must be known."""
    return want_of(value, scene.state.bound, scene.sight.things)


def _open_fields(scene, kind):
    """Returns the ascending list of the fields of a kind that are not fixed."""
    fields = scene.land.kinds[kind]
    return [field for field in sorted(fields) if "fixed" not in fields[field][1]]


def _is_free(scene, kind, field, value, but):
    return scene.sight.bearer(kind, field, value, but) == 0


def _change(scene, id_of_thing, field, value):
    return ("change", scene.mark, id_of_thing, scene.sight.version(id_of_thing), field, value)


def _can_be_made(scene, name):
    kind, values = scene.land.things[name]
    if any([waits_for(value, scene.state.bound) != "" for value in values.values()]):
        return False
    # No thing has the id 0: none is left out.
    return all([_is_free(scene, kind, field, known_want(scene, value), 0) for field, value in values.items()])


def _has_want(scene, name, field):
    """Tells whether the value of a bound name is its want, which must be known for this."""
    _, values = scene.land.things[name]
    if waits_for(values[field], scene.state.bound) != "":
        return False
    return known_want(scene, values[field]) == scene.sight.value(scene.state.bound[name], field)


def _stands_in_the_way(scene, sought, kind, field, value):
    if value is None:
        return False
    if scene.land.kinds[kind][field][0] != "":
        return value in scene.state.leftovers
    return (kind, field, value) in sought


def _sought_places(scene):
    """Returns a dict of the places (kind, field, number) of single fields that things of the
    land want and have not."""
    # The thing that has a number seeks it nowhere else: what is sought is so by another one.
    sought = {}
    for name, (kind, values) in scene.land.things.items():
        for field, value in values.items():
            if "single" not in scene.land.kinds[kind][field][1] or waits_for(value, scene.state.bound) != "":
                continue
            if name not in scene.state.bound or not _has_want(scene, name, field):
                sought[(kind, field, known_want(scene, value))] = True
    return sought
