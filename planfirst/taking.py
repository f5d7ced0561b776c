"""What a plan takes: everything, or what its targets tell."""

from planfirst.addresses import instance_of


class Taking:
    """The blocks and readings that a plan takes, whole or some instances of them alone."""

    def __init__(self, whole, alone):
        # A dict of addresses of blocks and readings; None stands for all.
        self._whole = whole
        # A dict of instance addresses.
        self._alone = alone
        self._parted = {at[:3]: True for at in alone}

    def takes(self, address):
        """Whether the block or reading is taken, whole or in part."""
        return self._whole is None or address in self._whole or address in self._parted

    def takes_instance(self, address):
        """Whether the instance is taken."""
        return self._whole is None or address[:3] in self._whole or address in self._alone


def targeted(targets, outline, state):
    """Return the taking of what the targets name, and of nothing else; None stands for everything."""
    return _taking(targets, outline, state, False)


def targeted_with_needs(targets, outline, state):
    """Return the taking of what the targets name and of all that this needs; None stands for everything."""
    return _taking(targets, outline, state, True)


def _taking(targets, outline, state, with_needs):
    if targets is None:
        return Taking(None, {})
    standing = _addresses_in(state)
    named = [at for at in targets if at[:3] in outline.blocks or at in standing]
    whole = {at: True for at in named if len(at) == 3}
    if with_needs:
        for at in named:
            for other in outline.needed.get(at[:3], {}):
                whole[other] = True
    return Taking(whole, {at: True for at in named if len(at) == 4})


def _addresses_in(state):
    """Return a dict of the addresses of all instances and blocks of which the state has something."""
    found = {}
    for at in [*state.objects, *state.deposed]:
        instance = instance_of(at)
        found[instance] = True
        found[instance[:3]] = True
    return found
