"""The land that a text tells."""

from settledland.reading import read_tree
from settledland.rules import check_tree, items_of, table_of, written_out

NONE = ("none",)


class Land:
    """The kinds, the things written out, and the other items of a tree that keeps all
    rules. Raises InvalidLand."""

    def __init__(self, tree):
        check_tree(tree)
        kinds, items = tree
        self.kinds = table_of(kinds)
        self.things = {}
        for name, kind, values in written_out(tree):
            self.things[name] = (kind, _all_values(self.kinds[kind], values))
        self.keeps = tuple(sorted({name for _, name in items_of(items, "keep")}))
        self.most = None
        for _, number in items_of(items, "most"):
            self.most = number
        self.adopts = {name: number for _, number, name in items_of(items, "adopt")}
        self.moves = {new: old for _, old, new in items_of(items, "move")}


class OwnLand:
    """A copy of a land, for an object that keeps it whatever becomes of the dicts of the
    land."""

    def __init__(self, land):
        self.kinds = {kind: dict(fields) for kind, fields in land.kinds.items()}
        self.things = {name: (kind, dict(values)) for name, (kind, values) in land.things.items()}
        self.keeps = land.keeps
        self.most = land.most
        self.adopts = dict(land.adopts)
        self.moves = dict(land.moves)


def _all_values(fields, values):
    stands = dict(values)
    return {field: stands.get(field, NONE) for field in fields}


def read_land(text):
    """Returns the Land of a text. Raises SyntaxProblem, then InvalidLand."""
    return Land(read_tree(text))
