"""Writes out the things of a tree, and checks the rules that a tree must keep."""

from settledland.errors import InvalidLand
from settledland.limits import MOST_FIELDS, MOST_KINDS, MOST_THINGS, NUMBERS


def written_out(tree):
    """Returns the tuple of the things of a tree: tuples (name, kind, values)."""
    _, items = tree
    things = []
    for _, name, count, kind, values in items_of(items, "thing"):
        if count is None:
            things.append((name, kind, values))
        else:
            things.extend([(f"{name}.{k}", kind, _values_of_copy(values, k)) for k in range(count)])
    return tuple(things)


def items_of(items, word):
    """Returns the list of the items that begin with this word."""
    return [item for item in items if item[0] == word]


def table_of(kinds):
    """Returns the kinds of a tree as a dict from names to dicts from fields to tuples
    (target, marks)."""
    return {name: {field: (target, marks) for field, target, marks in fields} for name, fields in kinds}


def _values_of_copy(values, k):
    return tuple([(field, _value_of_copy(value, k)) for field, value in values])


def _value_of_copy(value, k):
    if value[0] == "index":
        return ("number", (k + value[1]) % NUMBERS)
    if value[0] == "name":
        return ("name", value[1].replace("#", str(k)))
    if value[0] == "told":
        return ("told", value[1].replace("#", str(k)), value[2])
    return value


def check_tree(tree):
    """Returns None if a tree keeps all rules; otherwise raises InvalidLand with the
    first broken one."""
    kinds, items = tree
    _check_kinds(kinds)
    _check_size(items)
    things = written_out(tree)
    _check_names(things)
    _check_singles(items)
    table = table_of(kinds)
    kind_of = {name: kind for name, kind, _ in things}
    for _, kind, values in things:
        _check_thing(kind, values, table, kind_of)
    _check_circle(things)
    _check_clash(things, table)
    _check_items(items, kind_of)


def _has_twice(rows):
    return len(set(rows)) < len(rows)


def _check_kinds(kinds):
    names = [name for name, _ in kinds]
    if len(names) > MOST_KINDS or _has_twice(names):
        raise InvalidLand("kinds")
    for _, fields in kinds:
        if len(fields) > MOST_FIELDS or _has_twice([field for field, _, _ in fields]):
            raise InvalidLand("fields")
    targets = [(target, marks) for _, fields in kinds for _, target, marks in fields if target != ""]
    for target, _ in targets:
        if target not in names:
            raise InvalidLand("target")
    for _, marks in targets:
        if "single" in marks:
            raise InvalidLand("marks")


def _check_size(items):
    # Counted, not written out: a text can tell of billions of copies.
    counts = [1 if count is None else count for _, _, count, _, _ in items_of(items, "thing")]
    if sum(counts) > MOST_THINGS:
        raise InvalidLand("things")


def _check_names(things):
    names = [name for name, _, _ in things]
    if _has_twice(names) or _has_mark_of_copies(names):
        raise InvalidLand("things")


def _check_singles(items):
    for _, _, count, _, values in items_of(items, "thing"):
        if count is not None:
            continue
        if "index" in [value[0] for _, value in values] or _has_mark_of_copies(_names_in(values)):
            raise InvalidLand("things")


def _has_mark_of_copies(names):
    return any(["#" in name for name in names])


def _names_in(values):
    return [value[1] for _, value in values if value[0] in ("name", "told")]


def _check_thing(kind, values, table, kind_of):
    if kind not in table:
        raise InvalidLand("kind")
    fields = table[kind]
    names = [field for field, _ in values]
    if _has_twice(names) or any([field not in fields for field in names]):
        raise InvalidLand("values")
    filled = [field for field, value in values if value[0] != "none"]
    for field, (_, marks) in fields.items():
        if "empty" not in marks and field not in filled:
            raise InvalidLand("missing")
    for field, value in values:
        if not _has_sort(value, fields[field][0]):
            raise InvalidLand("sort")
    for field, value in values:
        if not _is_known(value, fields[field][0], kind_of):
            raise InvalidLand("name")


def _has_sort(value, target):
    if target == "":
        return value[0] in ("number", "none", "told")
    return value[0] in ("none", "name")


def _is_known(value, target, kind_of):
    if value[0] == "told":
        return value[1] in kind_of
    if value[0] == "name":
        return value[1] in kind_of and kind_of[value[1]] == target
    return True


def _check_circle(things):
    waiting = list(things)
    while waiting:
        names = [name for name, _, _ in waiting]
        leaning = [thing for thing in waiting if _leans_on(thing, names)]
        if len(leaning) == len(waiting):
            raise InvalidLand("circle")
        waiting = leaning


def _leans_on(thing, names):
    return any([name in names for name in _names_in(thing[2])])


def _check_clash(things, table):
    borne = []
    for _, kind, values in things:
        for field, value in values:
            if value[0] == "number" and "single" in table[kind][field][1]:
                borne.append((kind, field, value[1]))
    if _has_twice(borne):
        raise InvalidLand("clash")


def _check_items(items, kind_of):
    kept = [name for _, name in items_of(items, "keep")]
    numbers = [number for _, number, _ in items_of(items, "adopt")]
    adopted = [name for _, _, name in items_of(items, "adopt")]
    old = [name for _, name, _ in items_of(items, "move")]
    new = [name for _, _, name in items_of(items, "move")]
    if any([name not in kind_of for name in kept + adopted + new]):
        raise InvalidLand("items")
    if any([name in kind_of for name in old]):
        raise InvalidLand("items")
    if any([_has_twice(rows) for rows in (adopted, numbers, old, new)]):
        raise InvalidLand("items")
    if len(items_of(items, "most")) > 1:
        raise InvalidLand("items")
