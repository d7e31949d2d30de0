"""Reads a text: its tokens, and the tree that they tell."""

from settledland.errors import SyntaxProblem
from settledland.limits import NUMBERS

BLANKS = " \n"
DIGITS = "0123456789"
LETTERS = "abcdefghijklmnopqrstuvwxyzABCDEFGHIJKLMNOPQRSTUVWXYZ"
NAME_CHARACTERS = "abcdefghijklmnopqrstuvwxyzABCDEFGHIJKLMNOPQRSTUVWXYZ0123456789_.#"
SIGNS = "{}:;=*+"
WORDS = (
    "kind", "number", "ref", "fixed", "empty", "single", "thing", "none",
    "index", "told", "keep", "adopt", "as", "move", "to", "most",
)

# How the form of a land writes tokens that do not stand for themselves.
FORMS = {"name": "NAME", "number": "NUMBER"}


def tokens(text):
    """Returns the list of the tokens of a text: tuples (sort, start, end)."""
    found = []
    at = 0
    while at < len(text):
        if text[at] in BLANKS:
            at += 1
        elif text[at] == "!":
            at = _end_of_note(text, at)
        else:
            end = _end_of_token(text, at)
            found.append((_sort_of(text[at:end]), at, end))
            at = end
    return found


def _end_of_note(text, start):
    end = text.find("\n", start)
    return len(text) if end < 0 else end


def _end_of_token(text, start):
    if text[start] in LETTERS:
        return _end_of_run(text, start, NAME_CHARACTERS)
    if text[start] in DIGITS:
        return _end_of_run(text, start, DIGITS)
    return start + 1


def _end_of_run(text, start, characters):
    end = start
    while end < len(text) and text[end] in characters:
        end += 1
    return end


def _sort_of(piece):
    if piece in WORDS:
        return "word"
    if piece[0] in LETTERS:
        return "name"
    if piece[0] in DIGITS:
        return "number"
    if piece in SIGNS:
        return "sign"
    return "wrong"


class Reader:
    """Goes over the tokens of a text from left to right."""

    def __init__(self, text):
        self._text = text
        self._tokens = tokens(text)
        self._end = self._tokens[-1][2] if self._tokens else 0
        self._at = 0

    def ahead(self):
        """Returns the next token as the form of a land writes it: NAME, NUMBER, or
        the token itself; behind the last one the empty string."""
        if self._at == len(self._tokens):
            return ""
        sort, start, end = self._tokens[self._at]
        return FORMS.get(sort, self._text[start:end])

    def take(self, *forms):
        """Goes over the next token, which must have one of these forms, and returns
        its characters."""
        if self.ahead() not in forms:
            raise SyntaxProblem(self._place())
        _, start, end = self._tokens[self._at]
        self._at += 1
        return self._text[start:end]

    def take_number(self):
        """Goes over a number and returns its value."""
        return _value_of(self.take("NUMBER"))

    def _place(self):
        if self._at == len(self._tokens):
            return self._end
        return self._tokens[self._at][1]


def _value_of(digits):
    # A text may hold more digits than int() takes at once.
    value = 0
    for digit in digits:
        value = (value * 10 + int(digit)) % NUMBERS
    return value


def read_tree(text):
    """Returns the tree of a text: a tuple (kinds, items). Raises SyntaxProblem."""
    reader = Reader(text)
    kinds = []
    while reader.ahead() == "kind":
        kinds.append(_read_kind(reader))
    items = []
    while reader.ahead() != "":
        items.append(_read_item(reader))
    return (tuple(kinds), tuple(items))


def _read_kind(reader):
    reader.take("kind")
    name = reader.take("NAME")
    reader.take("{")
    fields = []
    while reader.ahead() != "}":
        fields.append(_read_field(reader))
    reader.take("}")
    return (name, tuple(fields))


def _read_field(reader):
    name = reader.take("NAME")
    reader.take(":")
    target = ""
    if reader.take("number", "ref") == "ref":
        target = reader.take("NAME")
    marks = []
    while reader.ahead() != ";":
        marks.append(reader.take("fixed", "empty", "single"))
    reader.take(";")
    return (name, target, tuple(sorted(set(marks))))


def _read_item(reader):
    word = reader.take("thing", "keep", "most", "adopt", "move")
    if word == "thing":
        return _read_thing(reader)
    if word == "keep":
        item = (word, reader.take("NAME"))
    elif word == "most":
        item = (word, reader.take_number())
    elif word == "adopt":
        number = reader.take_number()
        reader.take("as")
        item = (word, number, reader.take("NAME"))
    else:
        old = reader.take("NAME")
        reader.take("to")
        item = (word, old, reader.take("NAME"))
    reader.take(";")
    return item


def _read_thing(reader):
    name = reader.take("NAME")
    count = None
    if reader.ahead() == "*":
        reader.take("*")
        count = reader.take_number()
    reader.take(":")
    kind = reader.take("NAME")
    reader.take("{")
    values = []
    while reader.ahead() != "}":
        values.append(_read_pair(reader))
    reader.take("}")
    return ("thing", name, count, kind, tuple(values))


def _read_pair(reader):
    field = reader.take("NAME")
    reader.take("=")
    value = _read_value(reader)
    reader.take(";")
    return (field, value)


def _read_value(reader):
    form = reader.ahead()
    if form == "NUMBER":
        return ("number", reader.take_number())
    if form == "NAME":
        return ("name", reader.take("NAME"))
    word = reader.take("none", "index", "told")
    if word == "none":
        return ("none",)
    if word == "index":
        return ("index", _read_addition(reader))
    name = reader.take("NAME")
    return ("told", name, _read_addition(reader))


def _read_addition(reader):
    if reader.ahead() != "+":
        return 0
    reader.take("+")
    return reader.take_number()
