"""What a plan takes: everything, or what its targets tell."""


class Taking:
    """The blocks and readings that a plan takes, whole or some instances of them alone."""

    def __init__(self, whole, alone):
        # A dict of addresses of blocks and readings; None stands for all.
        self._whole = whole
        # A dict of instance addresses.
        self._alone = alone
        self._parted = {at[:3]: True for at in alone}

    def takes(self, address):
        """Whether the block or reading is taken, whole or in part."""
        return self._whole is None or address in self._whole or address in self._parted

    def takes_instance(self, address):
        """Whether the instance is taken."""
        return self._whole is None or address[:3] in self._whole or address in self._alone


def targeted(targets):
    """Return the taking of what the targets name, and of nothing else; None stands for everything."""
    if targets is None:
        return Taking(None, {})
    # What is neither written nor in the state may be among them, and is of no effect.
    whole = {at: True for at in targets if len(at) == 3}
    return Taking(whole, {at: True for at in targets if len(at) == 4})


def targeted_with_needs(targets, outline):
    """Return the taking of what the targets name and of all that this needs; None stands for everything."""
    if targets is None:
        return targeted(None)
    needed = [other for at in targets for other in outline.needed.get(at[:3], {})]
    return targeted((*targets, *needed))
