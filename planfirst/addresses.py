"""Addresses of blocks, readings, calls and instances, and their order."""

from planfirst.values import is_integer, is_name


def place(address):
    """Return what addresses are sorted by: path, kind, name, key."""
    return (*address[:3], *_place_of_key(address))


def _place_of_key(address):
    # None, integers and texts can't be held against each other, so each sort has its own number.
    if len(address) == 3:
        return (0, 0, "")
    key = address[3]
    if key is None:
        return (1, 0, "")
    if isinstance(key, str):
        return (3, 0, key)
    return (2, key, "")


def is_key(thing):
    """Whether it can be the key of an instance."""
    return thing is None or isinstance(thing, str) or is_integer(thing) and thing >= 0


def is_instance_address(thing):
    """Whether it is the address of an instance (a look-up alone would take True for 1)."""
    if not isinstance(thing, tuple) or len(thing) != 4:
        return False
    path, kind, name, key = thing
    if not isinstance(path, tuple) or not all([is_name(call) for call in path]):
        return False
    return is_name(kind) and is_name(name) and is_key(key)
