"""Looking without acting: what is otherwise than told, what a new text would bring, things
written as a text, and the order in which things can be taken."""

from settledland.errors import InvalidJournal
from settledland.newness import least_lets, lets
from settledland.possible import known_want
from settledland.scene import Scene
from settledland.sight import Sight, things_by_id
from settledland.wants import name_in, waits_for


def drift(land, owner, entries, look):
    """Returns the list of what the look shows to be otherwise than the text tells. Raises
    the errors of State, and InvalidJournal if the look is older than the journal."""
    scene = Scene(land, owner, entries, look)
    if scene.is_old():
        raise InvalidJournal("the look is older than the journal")
    scene.find_facts()
    bound = sorted(scene.state.bound)
    begun = sorted(scene.state.begun)
    there = [name for name in bound if name in land.things]
    others = [name for name in there if _has_another_kind(scene, name)]
    rows = [("missing", name) for name in sorted(land.things) if name not in bound + begun]
    rows.extend([("begun", name) for name in begun])
    rows.extend([("stray", name) for name in bound if name not in land.things])
    rows.extend([("kind", name) for name in others])
    for name in there:
        if name not in others:
            rows.extend(_drift_of_values(scene, name))
    return rows + [("left", id_of_thing) for id_of_thing in scene.state.leftovers]


def _has_another_kind(scene, name):
    kind, _ = scene.land.things[name]
    return scene.sight.kind(scene.state.bound[name]) != kind


def _drift_of_values(scene, name):
    rows = []
    _, values = scene.land.things[name]
    for field in sorted(values):
        other = waits_for(values[field], scene.state.bound)
        if other != "":
            rows.append(("waits", name, field, other))
            continue
        want = known_want(scene, values[field])
        value = scene.sight.value(scene.state.bound[name], field)
        if want != value:
            rows.append(("value", name, field, value, want))
    return rows


def cause(land, state, look, name):
    """Returns the chain of names that is the cause of a let, a tuple; all bound things live
    in the look."""
    reasons = lets(land, state, look)
    chain = [name]
    while chain[-1] in reasons and reasons[chain[-1]][0] == "through":
        _, _, other = reasons[chain[-1]]
        chain.append(other)
    return tuple(chain)


def change_of_texts(first, second):
    """Returns the dict from the names of both lands, those of the first one moved, to the
    words that tell what becomes of them, if the first one is settled."""
    moved = _moved_names(first, second)
    kinds = {}
    stands = {}
    for name, (kind, values) in first.things.items():
        kinds[moved[name]] = kind
        stands[moved[name]] = {field: _moved_value(value, moved) for field, value in values.items()}

    def is_other(name, field):
        _, values = second.things[name]
        return values[field] != stands[name][field]

    reasons = least_lets(second, kinds, is_other)
    words = {}
    for name in sorted(set(list(kinds) + list(second.things))):
        if name not in kinds:
            words[name] = "made"
        elif name not in second.things:
            words[name] = "taken"
        elif name in reasons:
            words[name] = "new"
        else:
            words[name] = _word_of_staying(second, reasons, is_other, name)
    return words


def _moved_names(first, second):
    """Returns the dict from the names of the first land to their names behind the moves."""
    moved = {name: name for name in first.things}
    for new, old in second.moves.items():
        if old in first.things and new not in first.things:
            moved[old] = new
    return moved


def _moved_value(value, moved):
    if value[0] in ("name", "told"):
        return (value[0], moved[value[1]], *value[2:])
    return value


def _word_of_staying(second, reasons, is_other, name):
    _, values = second.things[name]
    for field, value in values.items():
        # A thing that is made again has another id and another told number than before.
        if is_other(name, field) or name_in(value) in reasons:
            return "changed"
    return "same"


def write_land(kinds, look, ids):
    """Returns the tree of a text that tells these kinds, the living things with these ids,
    and their adopts."""
    things = things_by_id(look)
    items = []
    for id_of_thing in ids:
        _, kind, values, _, _, _ = things[id_of_thing]
        filled = [(field, value) for field, value in values if value is not None]
        told = tuple([(field, _told_value(kinds[kind][field][0], value)) for field, value in filled])
        name = _name_of(kind, id_of_thing)
        items.append(("thing", name, None, kind, told))
        items.append(("adopt", id_of_thing, name))
    return (tuple([(kind, _fields_of(kinds[kind])) for kind in sorted(kinds)]), tuple(items))


def _fields_of(fields):
    return tuple([(field, *fields[field]) for field in sorted(fields)])


def _name_of(kind, id_of_thing):
    return f"{kind}.{id_of_thing}"


def _told_value(target, value):
    if target == "":
        return ("number", value)
    return ("name", _name_of(target, value))


def taking_order(kinds, look, ids):
    """Returns a tuple (order, stays): the ids that can be taken, in the least order, and for
    those that stay the ascending pairs (id, least thing that needs it then)."""
    moment, fences, things, spent = look
    waiting = sorted(set(list(ids)))
    order = []
    sight = Sight(kinds, look)
    free = [id_of_thing for id_of_thing in waiting if sight.needer(id_of_thing) == 0]
    while free:
        order.append(free[0])
        waiting.remove(free[0])
        things = tuple([thing for thing in things if thing[0] != free[0]])
        sight = Sight(kinds, (moment, fences, things, spent))
        free = [id_of_thing for id_of_thing in waiting if sight.needer(id_of_thing) == 0]
    return (tuple(order), tuple([(id_of_thing, sight.needer(id_of_thing)) for id_of_thing in waiting]))
