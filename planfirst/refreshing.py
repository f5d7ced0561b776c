"""Refreshing: a state held against the world."""

from planfirst.equality import equal
from planfirst.states import Object, State


def refreshed(state, world):
    """Return the state as the world tells its objects now, and a dict of what is otherwise."""
    objects, drift = _read(state.objects, world)
    deposed, more = _read(state.deposed, world)
    for at in more:
        drift[at] = more[at]
    return State(objects, deposed, state.outputs, state.serial), drift


def _read(known, world):
    """Return those of the known objects that still stand, as they are read, and what is otherwise."""
    objects = {}
    drift = {}
    for at in known:
        old = known[at]
        attributes = world.read(old.tag)
        if attributes is None:
            drift[at] = None
            continue
        objects[at] = Object(old.tag, attributes, old.tainted, old.needs, old.first)
        names = _differing(old.attributes, attributes)
        if names:
            drift[at] = names
    return objects, drift


def _differing(one, other):
    """Return the sorted names under which the two dicts do not have the same."""
    found = [name for name in one if name not in other or not equal(one[name], other[name])]
    found.extend([name for name in other if name not in one])
    return tuple(sorted(found))
