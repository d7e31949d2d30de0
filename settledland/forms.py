"""The forms of calls, of deeds of others, and of the entries of a journal."""

# The parts behind the word. A kind may be anything: an outside refuses what is no kind
# of it, and does not raise an error.
CALLS = {
    "fence": ("pair",),
    "make": ("pair", "pair", "anything", "values"),
    "change": ("pair", "integer", "integer", "string", "value"),
    "take": ("pair", "integer", "integer"),
}
DEEDS = {
    "make": ("anything", "values"),
    "change": ("integer", "string", "value"),
    "take": ("integer",),
}
ENTRIES = {
    "run": ("integer",),
    "begin": ("string", "integer"),
    "bind": ("string", "integer", "integer"),
    "adopt": ("string", "integer", "integer"),
    "let": ("string",),
    "lost": ("string",),
    "drop": ("string",),
    "move": ("string", "string"),
    "gone": ("integer",),
}


def is_call(call):
    """Tells whether this is a tuple with the form of a call."""
    return _begins_with_word(call) and call[0] in CALLS and _have_forms(call[1:], CALLS[call[0]])


def is_deed(word, parts):
    """Tells whether the parts of a deed of others with this word have their forms."""
    return _have_forms(parts, DEEDS[word])


def is_entry(entry):
    """Tells whether this is a tuple with the form of an entry of a journal."""
    return _begins_with_word(entry) and entry[0] in ENTRIES and _have_forms(entry[1:], ENTRIES[entry[0]])


def _begins_with_word(row):
    return isinstance(row, tuple) and len(row) > 0 and isinstance(row[0], str)


def _have_forms(parts, forms):
    if len(parts) != len(forms):
        return False
    return all([_has_form(part, form) for part, form in zip(parts, forms)])


def _has_form(part, form):
    if form == "integer":
        return _is_integer(part)
    if form == "string":
        return isinstance(part, str)
    if form == "value":
        return part is None or _is_integer(part)
    if form == "pair":
        return _is_tuple_of(part, ("integer", "integer"))
    if form == "values":
        return isinstance(part, tuple) and all([_is_tuple_of(pair, ("string", "value")) for pair in part])
    return True


def _is_tuple_of(part, forms):
    return isinstance(part, tuple) and _have_forms(part, forms)


def _is_integer(part):
    # For Python True and False are integers, for the program they are not.
    return isinstance(part, int) and not isinstance(part, bool)
