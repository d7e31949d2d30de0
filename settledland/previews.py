"""Previews: what calm times would bring, and reports of it."""

from settledland.calm import Course
from settledland.outside import outside_of


def preview(land, owner, entries, look):
    """Returns the preview: a tuple (calls, result, reasons, names). Raises the errors of
    decide."""
    course = _course(land, owner, entries, look)
    calls = tuple([call for _, call in course.rows])
    names = tuple([whom for whom, call in course.rows if call[0] == "make"])
    return (calls, course.result, tuple(course.lets), names)


def report(land, owner, entries, look):
    """Returns the text of the report of the preview. Raises the errors of decide."""
    course = _course(land, owner, entries, look)
    lines = [_line_of_call(land, whom, call) for whom, call in course.rows]
    lines.append(_line_of_result(course.result))
    return "".join([line + "\n" for line in lines])


def _course(land, owner, entries, look):
    return Course(land, owner, entries, outside_of(land.kinds, look))


def _line_of_call(land, whom, call):
    if call[0] == "fence":
        _, run = call[1]
        return f"fence {run}"
    if call[0] == "make":
        return f"make {whom} {call[3]}"
    if call[0] == "change":
        _, _, _, _, field, value = call
        return f"change {whom} {field} {_written(land, whom, field, value)}"
    return f"take {whom}"


def _written(land, whom, field, value):
    """Returns how a report writes a value that a name, or a leftover, gets in a field."""
    # A leftover gets no other value than this.
    if value is None:
        return "none"
    kind, _ = land.things[whom]
    target, _ = land.kinds[kind][field]
    return str(value) if target == "" else f"@{value}"


def _line_of_result(result):
    if result[0] == "barred":
        return f"barred {result[1]}"
    if result[0] == "stuck":
        return f"stuck {len(result[1])}"
    return result[0]
