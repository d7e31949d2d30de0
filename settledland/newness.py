"""What must be new: the names that are let, and the things that must be made."""

from settledland.sight import things_by_id
from settledland.wants import name_in, want_of


def lets(land, state, look):
    """Returns the dict from the names of the lets to their reasons; all bound things live in
    the look."""
    return lets_of(land, state.bound, things_by_id(look))


def to_make(land, state, look):
    """Returns the ascending list of the names of the land that must be made."""
    found = lets(land, state, look)
    return [name for name in sorted(land.things) if name not in state.bound or name in found]


def lets_of(land, bound, things):
    """Returns the lets for a dict of bound names, and a dict from ids to living things."""
    kinds = {name: things[bound[name]][1] for name in bound}

    def is_other(name, field):
        _, values = land.things[name]
        value = dict(things[bound[name]][2])[field]
        return want_of(values[field], bound, things) != value

    return least_lets(land, kinds, is_other)


def least_lets(land, kinds, is_other):
    """Returns the dict from the names of the lets, ascending, to their reasons. kinds is a
    dict from the bound names to the kinds of their living things; is_other(name, field)
    tells of a known want whether it is another one than the value."""
    names = sorted(kinds)
    found = {}
    before = -1
    while len(found) > before:
        before = len(found)
        for name in names:
            if name not in found and _reason(land, kinds, is_other, found, name) != ():
                found[name] = True
    # The first reason that counts can be one that a later name has brought.
    return {name: _reason(land, kinds, is_other, found, name) for name in names if name in found}


def _reason(land, kinds, is_other, found, name):
    """Returns why a bound name is let if those found are, or ()."""
    if name not in land.things:
        return ("removed",)
    kind, values = land.things[name]
    if kinds[name] != kind:
        return ("kind",)
    fields = land.kinds[kind]
    for field in sorted(values):
        if "fixed" not in fields[field][1]:
            continue
        other = name_in(values[field])
        if other != "" and (other not in kinds or other in found):
            return ("through", field, other)
        if is_other(name, field):
            return ("fixed", field)
    return ()
