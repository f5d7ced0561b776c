"""Stores: where a state is kept, for one holder of the lock at a time."""

from planfirst.equality import equal
from planfirst.errors import Locked, Stale
from planfirst.states import State
from planfirst.values import is_integer


class Store:
    """Keeps a state."""

    def __init__(self, state):
        self._state = state
        # Who has locked the store, None if nobody has.
        self._holder = None

    def kept(self):
        """Return the state that is kept."""
        return self._state

    def lock(self, holder):
        """Lock the store; Locked if anyone has locked it."""
        if self._holder is not None:
            raise Locked(self._holder)
        self._holder = holder

    def unlock(self, holder):
        """Unlock the store; Locked unless this holder has locked it."""
        self._refuse_others(holder)
        self._holder = None

    def write(self, holder, state):
        """Keep this state from now on; Locked unless this holder has locked the store, Stale by its serial."""
        self._refuse_others(holder)
        if not isinstance(state, State) or not self._is_next(state.serial):
            raise Stale(self._state.serial)
        self._state = state

    def _refuse_others(self, holder):
        if self._holder is None or not equal(self._holder, holder):
            raise Locked(self._holder)

    def _is_next(self, serial):
        return is_integer(serial) and serial in (self._state.serial, self._state.serial + 1)
