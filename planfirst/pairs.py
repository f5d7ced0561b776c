"""Pairs of a state and a world, as they are alike to others."""

from planfirst.values import is_tag


def picture(state, world):
    """Return what the pair is but for the serial and for the numbers of its Tags, of which the order alone counts."""
    things = world.things()
    rows = [(tag, things[tag][0], things[tag][1]) for tag in things]
    kept = [_kept(state.objects[at]) for at in state.objects] + [_kept(state.deposed[at]) for at in state.deposed]
    numbers = {}
    for value in [*rows, *kept, state.outputs]:
        for number in _numbers_in(value):
            numbers[number] = True
    places = {number: place for place, number in enumerate(sorted(numbers), start=1)}
    return (
        {at: _known_by(state.objects[at], places) for at in state.objects},
        {at: _known_by(state.deposed[at], places) for at in state.deposed},
        _numbered(state.outputs, places),
        [_numbered(row, places) for row in rows],
    )


def _kept(thing):
    return (thing.tag, thing.attributes)


def _known_by(thing, places):
    """Return what a state knows of an object; the addresses in its needs are no values."""
    return (*_numbered(_kept(thing), places), thing.tainted, thing.needs, thing.first)


def _numbers_in(value):
    """Return the numbers of all Tags in a value."""
    if is_tag(value):
        return [value[2]]
    if isinstance(value, tuple):
        return [number for part in value for number in _numbers_in(part)]
    if isinstance(value, dict):
        return [number for key in value for number in _numbers_in(value[key])]
    return []


def _numbered(value, places):
    """Return the value with the places of their numbers for the numbers of Tags."""
    if is_tag(value):
        return ("#", value[1], places[value[2]])
    if isinstance(value, tuple):
        return tuple([_numbered(part, places) for part in value])
    if isinstance(value, dict):
        return {key: _numbered(value[key], places) for key in value}
    return value
