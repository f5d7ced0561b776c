"""Moves: objects of a state brought to the addresses where a configuration has them now."""

from planfirst.addresses import place
from planfirst.scopes import scopes
from planfirst.states import Object, State


def moved(state, config):
    """Return the state behind all moves, and a tuple of (old, new, whether it went)."""
    moving = Moving(state)
    found = scopes(config)
    for old, new in _in_order(_moves_in(found)):
        moving.move(old, new)
    for old, new in _changes_of_count(found):
        moving.move_instance(old, new)
    return moving.reached(), tuple(moving.notes)


class Moving:
    """A state while things in it are moved, and the notes of this."""

    def __init__(self, state):
        self._outputs = state.outputs
        self._serial = state.serial
        self._objects = {at: state.objects[at] for at in state.objects}
        self._deposed = {at: state.deposed[at] for at in state.deposed}
        self.notes = []

    def reached(self):
        """Return the state as it is now."""
        return State(self._objects, self._deposed, self._outputs, self._serial)

    def move(self, old, new):
        """Do a move from one address to another one, both of a block or both of an instance."""
        if len(old) == 4:
            self.move_instance(old, new)
            return
        for at in self._instances_of(old):
            self.move_instance(at, (*new, at[3]))
        self._objects = {at: _renamed(self._objects[at], old, new) for at in self._objects}
        self._deposed = {at: _renamed(self._deposed[at], old, new) for at in self._deposed}

    def move_instance(self, old, new):
        """Bring what is at one instance address to another one, unless an object stands there."""
        free = new not in self._objects
        if old in self._objects:
            self.notes.append((old, new, free))
        if not free:
            return
        if old in self._objects:
            self._objects[new] = self._objects.pop(old)
        last = max(self._numbers_at(new), default=0)
        for number in self._numbers_at(old):
            last += 1
            self._deposed[(new, last)] = self._deposed.pop((old, number))

    def _instances_of(self, block):
        """Return the addresses of a block's instances at which anything is, sorted."""
        found = {at: True for at in self._objects if at[:3] == block}
        for at, _ in self._deposed:
            if at[:3] == block:
                found[at] = True
        return sorted(found, key=place)

    def _numbers_at(self, address):
        return sorted([number for at, number in self._deposed if at == address])


def _renamed(thing, old, new):
    """Return the object with the new address of a block for the old one in its needs."""
    if old not in thing.needs:
        return thing
    needs = {new if at == old else at: True for at in thing.needs}
    return Object(thing.tag, thing.attributes, thing.tainted, tuple(sorted(needs)), thing.first)


def _moves_in(found):
    """Return a dict from old to new addresses, with paths, of all moves."""
    goals = {}
    for scope in found:
        for move in scope.config.moves:
            old = (scope.path, *move.old)
            goals[old] = (scope.path, *move.new)
    return goals


def _in_order(goals):
    """Return the pairs of old and new addresses in the order in which the moves are done."""
    left = {old: goals[old] for old in goals}
    pairs = []
    while left:
        news = {left[old]: True for old in left}
        old = min([at for at in left if at not in news], key=place)
        new = left.pop(old)
        pairs.append((old, new))
    return pairs


def _changes_of_count(found):
    """Return the pairs of addresses by which objects follow a count that came or went."""
    pairs = []
    for scope in found:
        places = [at for move in scope.config.moves for at in (move.old, move.new)]
        named = [at[:2] for at in places]
        for block in scope.config.blocks:
            if (block.kind, block.name) not in named:
                pairs.extend(_change_of_count((scope.path, block.kind, block.name), block.many))
    return sorted(pairs, key=_place_of_pair)


def _place_of_pair(pair):
    return place(pair[0])


def _change_of_count(address, many):
    if many is None:
        return [((*address, 0), (*address, None))]
    if many[0] == "count":
        return [((*address, None), (*address, 0))]
    return []
