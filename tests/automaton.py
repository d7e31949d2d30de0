"""The form of a land as a table of states, written apart from the program.

Each state tells which tokens can stand next, and the state behind each. The states
in ENDS are those in which a text may end.
"""

ITEM_STARTS = {
    "thing": "thing",
    "keep": "last name",
    "most": "last number",
    "adopt": "adopt",
    "move": "move",
}
STATES = {
    "kinds": {"kind": "kind", **ITEM_STARTS},
    "items": ITEM_STARTS,
    "kind": {"NAME": "kind name"},
    "kind name": {"{": "fields"},
    "fields": {"NAME": "field", "}": "kinds"},
    "field": {":": "field sort"},
    "field sort": {"number": "marks", "ref": "ref"},
    "ref": {"NAME": "marks"},
    "marks": {"fixed": "marks", "empty": "marks", "single": "marks", ";": "fields"},
    "thing": {"NAME": "thing name"},
    "thing name": {"*": "count", ":": "thing kind"},
    "count": {"NUMBER": "counted"},
    "counted": {":": "thing kind"},
    "thing kind": {"NAME": "values"},
    "values": {"{": "pairs"},
    "pairs": {"NAME": "pair", "}": "items"},
    "pair": {"=": "value"},
    "value": {
        "NUMBER": "pair end",
        "NAME": "pair end",
        "none": "pair end",
        "index": "addition",
        "told": "told",
    },
    "told": {"NAME": "addition"},
    "addition": {"+": "added", ";": "pairs"},
    "added": {"NUMBER": "pair end"},
    "pair end": {";": "pairs"},
    "adopt": {"NUMBER": "as"},
    "as": {"as": "last name"},
    "move": {"NAME": "to"},
    "to": {"to": "last name"},
    "last name": {"NAME": "last"},
    "last number": {"NUMBER": "last"},
    "last": {";": "items"},
}
ENDS = ("kinds", "items")

# One or more tokens for each form; the comma stands for all wrong characters.
WRITTEN = {
    "NAME": ("a", "numbers", "kind.1", "x#"),
    "NUMBER": ("0", "12"),
    **{
        word: (word,)
        for word in (
            "kind number ref fixed empty single thing none index told keep adopt as move to most"
        ).split()
    },
    **{sign: (sign,) for sign in "{}:;=*+"},
    "wrong": (",", "_", ".", "#", "-", "@"),
}


def state_behind(forms):
    """Returns the state behind these forms, all of which can stand where they stand."""
    state = "kinds"
    for form in forms:
        state = STATES[state][form]
    return state
