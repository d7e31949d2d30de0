"""The decider: tells the next call, or why there is none."""

from settledland.paper import paper_of
from settledland.possible import begin, first_possible
from settledland.scene import scene_of


class Decision:
    """What the decider tells: the entries, and the result. For calls that are not fences
    whom is the name, or the id of the leftover, for which they are; otherwise None. lets is
    the tuple of the pairs (name, reason) of the lets that are told."""

    def __init__(self, scene, result, whom):
        self.entries = tuple(scene.entries)
        self.lets = tuple(scene.found_lets)
        self.result = result
        self.whom = whom


def decide(land, owner, entries, look):
    """Returns a tuple of a tuple of entries and a result. Raises the errors of State, and
    InvalidJournal if the journal has no run."""
    decision = decision_of(land, owner, entries, look)
    return (decision.entries, decision.result)


def decision_of(land, owner, entries, look):
    """Returns the Decision. Raises the errors of decide."""
    scene = scene_of(land, owner, entries, look)
    result = result_of_steps(scene)
    if result is not None:
        return Decision(scene, result, None)
    rows = first_possible(scene)
    if not rows:
        return Decision(scene, result_without_call(scene), None)
    begin(scene, rows)
    whom, call = rows[0]
    return Decision(scene, call, whom)


def result_of_steps(scene):
    """Does the steps 1 to 7; returns their result, or None."""
    result = scene.result_ahead()
    if result is not None:
        return result
    scene.find_facts()
    return scene.find_lets()


def result_without_call(scene):
    """Returns the result of the step 9."""
    paper = paper_of(scene)
    return ("stuck", paper) if paper else ("settled",)
