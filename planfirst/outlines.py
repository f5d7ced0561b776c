"""Outlines: what plans, orders and applies must know of a configuration as a whole."""

from planfirst.layout import named_by_after, named_directly, needs, ways_between
from planfirst.scopes import scopes


class Outline:
    """What a configuration says of its blocks and readings, by their addresses; BadConfig if it is wrong."""

    def __init__(self, config, kinds):
        direct = needs(config, kinds)
        found = scopes(config)
        self._ways = ways_between(found)
        # The scopes by their paths, the one at the top with ().
        self.scopes = {scope.path: scope for scope in found}
        self.blocks = {(scope.path, one.kind, one.name): one for scope in found for one in scope.config.blocks}
        self.readings = {(scope.path, one.kind, one.name): one for scope in found for one in scope.config.readings}
        # What the after of each block and reading, and of the calls around it, names.
        self.after = named_by_after(found)
        # All addresses, in the order in which they are gone through.
        self.order = _sequence(direct)
        # A dict of what each needs, directly or by others, by its address.
        self.needed = _needed(direct, self.order)
        self.first = self.first_with(())

    def first_with(self, marked):
        """Return a dict of the blocks that are first if these blocks had first too."""
        found = {}
        for at in self.blocks:
            if self.blocks[at].first or at in marked:
                found[at] = True
                for other in self.needed[at]:
                    if other in self.blocks:
                        found[other] = True
        return found

    def blocks_needed(self, address):
        """Return the sorted tuple of the blocks that a block needs, directly or by others."""
        return tuple(sorted([at for at in self.needed[address] if at in self.blocks]))

    def named_in(self, address, attribute):
        """Return what the expression of an attribute of the block refers to directly, sorted."""
        expressions = self.blocks[address].attributes
        if attribute not in expressions:
            return []
        return named_directly(expressions[attribute], self.scopes[address[0]], self._ways)


def _sequence(direct):
    """Return the addresses so that none comes ahead of what it needs, of several the least one first."""
    waiting = {at: len(direct[at]) for at in direct}
    users = {at: [] for at in direct}
    for at in direct:
        for other in direct[at]:
            users[other].append(at)
    order = []
    free = [at for at in waiting if waiting[at] == 0]
    while free:
        at = min(free)
        free.remove(at)
        order.append(at)
        for user in users[at]:
            waiting[user] -= 1
            if waiting[user] == 0:
                free.append(user)
    return order


def _needed(direct, order):
    """Return what each address needs, directly or by others, as a dict of dicts."""
    place = {at: number for number, at in enumerate(order)}
    needed = {}
    for at in order:
        found = {}
        # What comes late in the order has much of the rest behind it already.
        for other in sorted(direct[at], key=lambda address: -place[address]):
            if other not in found:
                found[other] = True
                for one in needed[other]:
                    found[one] = True
        needed[at] = found
    return needed
