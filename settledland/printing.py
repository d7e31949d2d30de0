"""Writes the text of a tree."""

from settledland.reading import LETTERS, NAME_CHARACTERS


def print_tree(tree):
    """Returns a text that read_tree reads as this tree."""
    kinds, items = tree
    pieces = []
    for name, fields in kinds:
        pieces.extend(_pieces_of_kind(name, fields))
    for item in items:
        pieces.extend(_pieces_of_item(item))
    return _joined(pieces)


def _joined(pieces):
    # As few blanks as can be: a text has at most 8000 characters, so the text of a tree
    # must not be longer than the one that it was read from.
    parts = []
    last = ";"
    for piece in pieces:
        if last[0] in LETTERS and piece[0] in NAME_CHARACTERS:
            parts.append(" ")
        parts.append(piece)
        last = piece
    return "".join(parts)


def _pieces_of_kind(name, fields):
    pieces = ["kind", name, "{"]
    for field, target, marks in fields:
        sort = ["number"] if target == "" else ["ref", target]
        pieces.extend([field, ":"] + sort + list(marks) + [";"])
    return pieces + ["}"]


def _pieces_of_item(item):
    if item[0] == "thing":
        return _pieces_of_thing(item)
    if item[0] == "adopt":
        return ["adopt", str(item[1]), "as", item[2], ";"]
    if item[0] == "move":
        return ["move", item[1], "to", item[2], ";"]
    return [item[0], str(item[1]), ";"]


def _pieces_of_thing(item):
    _, name, count, kind, values = item
    many = [] if count is None else ["*", str(count)]
    pieces = ["thing", name] + many + [":", kind, "{"]
    for field, value in values:
        pieces.extend([field, "="] + _pieces_of_value(value) + [";"])
    return pieces + ["}"]


def _pieces_of_value(value):
    if value[0] in ("number", "name"):
        return [str(value[1])]
    if value[0] == "none":
        return ["none"]
    if value[0] == "index":
        return ["index"] + _pieces_of_addition(value[1])
    return ["told", value[1]] + _pieces_of_addition(value[2])


def _pieces_of_addition(number):
    return [] if number == 0 else ["+", str(number)]
