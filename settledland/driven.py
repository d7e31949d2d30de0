"""Driven worlds: an outside, an owner's land and journal, old looks, and calls under way."""

from settledland.decider import decision_of
from settledland.errors import InvalidCall
from settledland.forms import is_call
from settledland.journal import next_run
from settledland.lands import OwnLand
from settledland.outside import Outside


class Driven:
    """A driven world without things, whose journal is empty."""

    def __init__(self, land, owner):
        self._land = OwnLand(land)
        self._owner = owner
        self._world = Outside(land.kinds)
        self._looks = []
        self._entries = []
        self._told = []
        self._events = []

    def run(self, land):
        """Begins the next run, from now on with this land."""
        entry = next_run(self._entries)
        self._land = OwnLand(land)
        self._entries.append(entry)
        self._events.append(entry)

    def decide(self, back):
        """Decides with the look that was shown so many looks before the newest one, which is
        taken now, or with the oldest one. Returns the result; a call is put under way.
        Raises the errors of decide."""
        looks = [*self._looks, self._world.look()]
        look = looks[max(0, len(looks) - 1 - back)]
        decision = decision_of(self._land, self._owner, self._entries, look)
        # Not before there is a decision: an error changes nothing.
        self._looks = looks
        self._entries.extend(decision.entries)
        self._events.append(("told", decision.result))
        if is_call(decision.result):
            self._told.append(decision.result)
        return decision.result

    def under_way(self):
        """Returns the list of all calls that were told, in order."""
        return list(self._told)

    def do(self, number):
        """Does the call with this number in the list of those under way; returns the answer.
        Raises InvalidCall if there is none."""
        if not 0 <= number < len(self._told):
            raise InvalidCall("no call that was told has this number")
        answer = self._world.do(self._told[number])
        self._events.append(("did", number, answer))
        return answer

    def others(self):
        """Returns the outside, with which others do their deeds."""
        return self._world

    def journal(self):
        """Returns the list of all entries."""
        return list(self._entries)

    def events(self):
        """Returns the list of all events."""
        return list(self._events)

    def calm(self):
        """Lets calm times come; returns the result that is no call."""
        result = self.decide(0)
        while is_call(result):
            self.do(len(self._told) - 1)
            result = self.decide(0)
        return result
