"""Calm times: each call is done at once, once, and nothing else is done."""

from settledland.decider import decision_of
from settledland.forms import is_call


class Course:
    """What calm times bring in an Outside, which is changed: all entries of the journal, the
    calls as pairs (whom, call), the result that is no call, and the pairs (name, reason) of
    all lets. Raises the errors of decide."""

    def __init__(self, land, owner, entries, outside):
        self.entries = list(entries)
        self.rows = []
        self.lets = []
        decision = self._decide(land, owner, outside)
        while is_call(decision.result):
            self.rows.append((decision.whom, decision.result))
            outside.do(decision.result)
            decision = self._decide(land, owner, outside)
        self.result = decision.result

    def _decide(self, land, owner, outside):
        decision = decision_of(land, owner, self.entries, outside.look())
        self.entries.extend(decision.entries)
        self.lets.extend(decision.lets)
        return decision


def calm(land, owner, entries, outside):
    """Lets the decider go on in calm times with an Outside, which is changed. Returns a tuple
    (entries, calls, result). Raises the errors of decide."""
    course = Course(land, owner, entries, outside)
    return (course.entries, [call for _, call in course.rows], course.result)
