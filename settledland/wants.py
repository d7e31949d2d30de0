"""What a field of a thing of a land shall have."""

from settledland.limits import NUMBERS


def name_in(value):
    """Returns the name of the thing on which the want of a value hangs, or the empty string."""
    return value[1] if value[0] in ("name", "told") else ""


def waits_for(value, bound):
    """Returns the name for which the want of a value is unknown, as it is not bound, or the
    empty string if the want is known."""
    name = name_in(value)
    return "" if name in bound else name


def want_of(value, bound, things):
    """Returns the want of a value, which must be known; bound is a dict from names to ids,
    things one from ids to living things."""
    if value[0] == "none":
        return None
    if value[0] == "number":
        return value[1]
    id_of_thing = bound[value[1]]
    if value[0] == "name":
        return id_of_thing
    return (things[id_of_thing][4] + value[2]) % NUMBERS
