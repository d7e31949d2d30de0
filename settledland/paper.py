"""The paper of a stuck decider: why each thing waits."""

from settledland.possible import known_want
from settledland.wants import waits_for


def paper_of(scene):
    """Returns the paper of a Scene in which no call is possible; it is empty if the land is
    settled."""
    return tuple(_lines_of_changes(scene) + _lines_of_makes(scene) + _lines_of_takes(scene))


def _lines_of_changes(scene):
    lines = []
    for name in sorted(scene.state.bound):
        kind, values = scene.land.things[name]
        id_of_thing = scene.state.bound[name]
        for field in sorted(values):
            other = waits_for(values[field], scene.state.bound)
            if other != "":
                lines.append(("change", name, field, ("wait", other)))
                continue
            want = known_want(scene, values[field])
            if want != scene.sight.value(id_of_thing, field):
                bearer = scene.sight.bearer(kind, field, want, id_of_thing)
                lines.append(("change", name, field, ("borne", bearer)))
    return lines


def _lines_of_makes(scene):
    unbound = [name for name in sorted(scene.land.things) if name not in scene.state.bound]
    return [("make", name, _why_not_made(scene, name)) for name in unbound]


def _why_not_made(scene, name):
    kind, values = scene.land.things[name]
    for field in sorted(values):
        other = waits_for(values[field], scene.state.bound)
        if other != "":
            return ("wait", field, other)
        # No thing has the id 0: none is left out.
        bearer = scene.sight.bearer(kind, field, known_want(scene, values[field]), 0)
        if bearer != 0:
            return ("borne", field, bearer)
    return ()


def _lines_of_takes(scene):
    return [
        ("take", id_of_thing, ("needed", scene.sight.needer(id_of_thing)))
        for id_of_thing in scene.state.leftovers
    ]
