"""Rounds: the calls that may be done in any order, or at the same time."""

from settledland.decider import result_of_steps, result_without_call
from settledland.forms import is_call
from settledland.possible import begin, changes, clearings, makes, takes
from settledland.scene import scene_of


def decide_round(land, owner, entries, look):
    """Returns a tuple of a tuple of entries and a tuple of results: the calls of a round, or
    one result that is no call. Raises the errors of decide."""
    scene = scene_of(land, owner, entries, look)
    result = result_of_steps(scene)
    if result is not None:
        return (tuple(scene.entries), (result,))
    rows = _first_of_each_thing(changes(scene)) + makes(scene) + takes(scene)
    if not rows:
        rows = clearings(scene)[:1]
    begin(scene, rows)
    results = tuple([call for _, call in rows]) if rows else (result_without_call(scene),)
    return (tuple(scene.entries), results)


def calm_rounds(land, owner, entries, outside):
    """Lets the decider go on in rounds, whose calls are done in order, in calm times with an
    Outside, which is changed. Returns a tuple (entries, rounds, result). Raises the errors
    of decide."""
    journal = list(entries)
    rounds = []
    found, results = decide_round(land, owner, journal, outside.look())
    journal.extend(found)
    while is_call(results[0]):
        rounds.append(results)
        for call in results:
            outside.do(call)
        found, results = decide_round(land, owner, journal, outside.look())
        journal.extend(found)
    return (journal, rounds, results[0])


def _first_of_each_thing(rows):
    first = []
    changed = {}
    for whom, call in rows:
        if call[2] not in changed:
            changed[call[2]] = True
            first.append((whom, call))
    return first
