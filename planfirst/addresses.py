"""Addresses of blocks, readings, calls and instances, and their order."""

from planfirst.values import is_integer, is_name


def place(address):
    """Return what addresses are sorted by: path, kind, name, key."""
    return (*address[:3], *_place_of_key(address))


def _place_of_key(address):
    # None, integers and texts can't be held against each other, so each sort has its own number.
    if len(address) == 3:
        return (0, 0, "")
    key = address[3]
    if key is None:
        return (1, 0, "")
    if isinstance(key, str):
        return (3, 0, key)
    return (2, key, "")


def instance_of(address):
    """Return the address of an instance, also of a deposed object (address, number) the one where it stood."""
    return address[0] if len(address) == 2 else address


def place_of_step(step):
    """Return what steps are sorted by: address, word, number."""
    return (*place(step[1]), step[0], step[2] if len(step) == 3 else 0)


def is_key(thing):
    """Whether it can be the key of an instance."""
    return thing is None or isinstance(thing, str) or is_integer(thing) and thing >= 0


def is_address(thing):
    """Whether it is the address of a block or a reading."""
    if not isinstance(thing, tuple) or len(thing) != 3:
        return False
    path, kind, name = thing
    if not isinstance(path, tuple) or not all([is_name(call) for call in path]):
        return False
    return is_name(kind) and is_name(name)


def is_instance_address(thing):
    """Whether it is the address of an instance (a look-up alone would take True for 1)."""
    return isinstance(thing, tuple) and len(thing) == 4 and is_address(thing[:3]) and is_key(thing[3])


def is_step(thing):
    """Whether it has the form of a step."""
    if not isinstance(thing, tuple) or len(thing) not in (2, 3) or not isinstance(thing[0], str):
        return False
    if len(thing) == 3 and not is_integer(thing[2]):
        return False
    return is_instance_address(thing[1]) or is_address(thing[1])
