"""Judges of previews and of papers: they look at what is given, and search for no calls."""

from settledland.outside import outside_of
from settledland.paper import paper_of
from settledland.possible import first_possible
from settledland.scene import scene_of
from settledland.sight import things_by_id
from settledland.wants import want_of


def judge_preview(land, owner, entries, look, given):
    """Returns True if a preview with the result ("settled",) is right, otherwise False.
    Raises the errors of decide."""
    scene = scene_of(land, owner, entries, look)
    calls, result, reasons, names = given
    # With a look that is too old the decider does not come to the step 7.
    if result != ("settled",) or scene.is_old():
        return False
    scene.find_facts()
    if scene.find_lets() is not None or tuple(scene.found_lets) != reasons:
        return False
    if any([call[1] != scene.mark for call in calls]):
        return False
    tokens = [call[2] for call in calls if call[0] == "make"]
    if not _are_the_unbound(scene, names) or tokens != _tokens_of(scene, names):
        return False
    outside = outside_of(land.kinds, look)
    if not _change_something(outside, calls):
        return False
    return _is_settled(scene, outside.look(), _bound_at_last(scene, names, tokens, outside.look()))


def judge_stuck(land, owner, entries, look, paper):
    """Returns True if the decider may tell ("stuck", paper), otherwise False. Raises the
    errors of decide."""
    scene = scene_of(land, owner, entries, look)
    if len(paper) == 0 or scene.result_ahead() is not None:
        return False
    scene.find_facts()
    if scene.find_lets() is not None or first_possible(scene):
        return False
    return paper == paper_of(scene)


def _are_the_unbound(scene, names):
    """Tells whether these are, in some order, the names of the land that are not bound."""
    unbound = [name for name in scene.land.things if name not in scene.state.bound]
    return len(names) == len(unbound) and all([name in names for name in unbound])


def _tokens_of(scene, names):
    """Returns the list of the tokens with which the things of these names are to be made."""
    tokens = []
    number = scene.state.tokens
    for name in names:
        if name in scene.state.begun:
            tokens.append((scene.owner, scene.state.begun[name][0]))
        else:
            tokens.append((scene.owner, number))
            number += 1
    return tokens


def _change_something(outside, calls):
    """Does the calls until one is refused or changes nothing; tells whether none is so."""
    for number, call in enumerate(calls, start=1):
        if outside.do(call) != ("done",) or outside.calls() != number:
            return False
    return True


def _bound_at_last(scene, names, tokens, look):
    """Returns the dict from names to ids behind the calls; a made thing that does not live
    is left out."""
    made = {thing[5]: thing[0] for thing in things_by_id(look).values()}
    bound = dict(scene.state.bound)
    for name, token in zip(names, tokens):
        if token in made:
            bound[name] = made[token]
    return bound


def _is_settled(scene, look, bound):
    """Tells whether the fence is that of the run, and the land the told one."""
    _, fences, _, _ = look
    if (scene.owner, scene.state.run) not in fences:
        return False
    things = things_by_id(look)
    ids = list(bound.values())
    if sorted(bound) != sorted(scene.land.things) or len(set(ids)) < len(ids):
        return False
    if not all([at in things for at in ids]):
        return False
    if not all([_is_as_told(scene.land, name, bound, things) for name in bound]):
        return False
    return not any([_is_of_owner(scene, thing) for at, thing in things.items() if at not in ids])


def _is_as_told(land, name, bound, things):
    _, kind, pairs, _, _, _ = things[bound[name]]
    told_kind, values = land.things[name]
    if kind != told_kind:
        return False
    return pairs == tuple([(field, want_of(values[field], bound, things)) for field in sorted(values)])


def _is_of_owner(scene, thing):
    return thing[5][:1] == (scene.owner,) or thing[0] in scene.state.leftovers
