"""States: what is known of the objects that were made."""

from planfirst.addresses import is_instance_address, place
from planfirst.equality import Valued, equal
from planfirst.errors import Gone, NotThere, Occupied, Owned
from planfirst.values import fresh, is_tag


class Object(Valued):
    """What a state knows of one object."""

    def __init__(self, tag, attributes, tainted, needs, first):
        self.tag = tag
        self.attributes = fresh(attributes)
        self.tainted = tainted
        self.needs = needs
        self.first = first

    def parts(self):
        return (self.tag, self.attributes, self.tainted, self.needs, self.first)


class State(Valued):
    """The objects by their addresses, the old ones that wait to be destroyed, the outputs, and a number."""

    def __init__(self, objects, deposed, outputs, serial):
        self.objects = fresh(objects)
        self.deposed = fresh(deposed)
        self.outputs = fresh(outputs)
        self.serial = serial

    def parts(self):
        return (self.objects, self.deposed, self.outputs, self.serial)


def empty():
    """Return the state without anything."""
    return State({}, {}, {}, 0)


def take_in(state, world, address, tag):
    """Return the state with the object of this id at an address; Occupied, Gone or Owned if it can't be there."""
    if _stands(state, address):
        raise Occupied(address)
    if not _is_of(address, tag) or world.read(tag) is None:
        raise Gone(tag)
    owner = _owner(state, tag)
    if owner is not None:
        raise Owned(owner)
    return _with_object(state, address, Object(tag, world.read(tag), False, (), False))


def taint(state, address):
    """Return the state with the object at the address marked as tainted; NotThere if there is none."""
    return _marked(state, address, True)


def untaint(state, address):
    """Return the state with the object at the address marked as not tainted; NotThere if there is none."""
    return _marked(state, address, False)


def _stands(state, address):
    # A look-up alone would take True for 1, and can't be asked of everything.
    return is_instance_address(address) and address in state.objects


def _is_of(address, tag):
    """Whether it is an id that an object of the kind of the address can have."""
    return is_instance_address(address) and is_tag(tag) and tag[1] == address[1]


def _owner(state, tag):
    """Return the least address at which the state has the id, or None."""
    found = [at for at in state.objects if equal(state.objects[at].tag, tag)]
    found.extend([at for at, number in state.deposed if equal(state.deposed[(at, number)].tag, tag)])
    return sorted(found, key=place)[0] if found else None


def _with_object(state, address, thing):
    """Return the state with the thing at the address and the next serial."""
    objects = {at: state.objects[at] for at in state.objects}
    objects[address] = thing
    return State(objects, state.deposed, state.outputs, state.serial + 1)


def _marked(state, address, tainted):
    if not _stands(state, address):
        raise NotThere(address)
    old = state.objects[address]
    return _with_object(state, address, Object(old.tag, old.attributes, tainted, old.needs, old.first))
