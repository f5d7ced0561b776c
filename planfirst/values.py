"""Values, and what stands for values that are not known yet."""

from planfirst.equality import equal
from planfirst.touched import Touched, become, meet


class Unknown:
    """Stands in the place of a value, or of a part of it, that is not known yet."""

    def __eq__(self, other):
        return isinstance(other, Unknown)

    def __repr__(self):
        return "Unknown()"


def is_integer(thing):
    """Whether it is an int that is not a bool."""
    return isinstance(thing, int) and not isinstance(thing, bool)


def is_name(thing):
    """Whether it is a string of 1 to 12 letters a to z."""
    if not isinstance(thing, str) or not 1 <= len(thing) <= 12:
        return False
    return all(["a" <= letter <= "z" for letter in thing])


def are_unlike(names):
    """Whether no name (or tuple of names) comes twice."""
    return len(set(names)) == len(names)


def is_tag(thing):
    """Whether it is a Tag, which is no tuple of values although Python has it as a tuple."""
    if not isinstance(thing, tuple) or len(thing) != 3:
        return False
    mark, kind, number = thing
    return mark == "#" and is_name(kind) and is_integer(number) and number >= 1


def is_tuple(thing):
    """Whether it is a tuple of values, perhaps with Unknowns inside."""
    return isinstance(thing, tuple) and not is_tag(thing)


def is_value(thing):
    """Whether it is a known value."""
    if thing is None or isinstance(thing, (bool, int, str)):
        return True
    if isinstance(thing, tuple):
        return all([is_value(part) for part in thing])
    if isinstance(thing, dict):
        return all([isinstance(key, str) and is_value(thing[key]) for key in thing])
    return False


def is_known(value):
    """Whether no Unknown is in the value."""
    if isinstance(value, Unknown):
        return False
    if isinstance(value, tuple):
        return all([is_known(part) for part in value])
    if isinstance(value, dict):
        return all([is_known(value[key]) for key in value])
    return True


def fresh(value):
    """Return the value with new maps at every place where it has a map."""
    if isinstance(value, tuple):
        return tuple([fresh(part) for part in value])
    if isinstance(value, dict):
        return {key: fresh(value[key]) for key in value}
    return value


def facing(one, other):
    """Return the pairs of parts that are held against each other.

    None if these are neither tuples of one length nor maps with the same keys, or only one is a Tag.
    """
    if isinstance(one, tuple) and isinstance(other, tuple) and len(one) == len(other):
        # Part by part a tuple with an Unknown could come to a Tag, but it never stands for one.
        return list(zip(one, other)) if is_tag(one) == is_tag(other) else None
    if isinstance(one, dict) and isinstance(other, dict) and len(one) == len(other):
        if all([key in other for key in one]):
            return [(one[key], other[key]) for key in one]
    return None


def agrees(planned, value):
    """Whether the known value is one for which the planned one stands."""
    if isinstance(planned, Unknown):
        return True
    pairs = facing(planned, value)
    if pairs is None:
        return equal(planned, value)
    return all([agrees(part, known) for part, known in pairs])


def same(one, other):
    """Whether the two are the same: True, False, or Unknown() where it is not known yet."""
    if not _can_be_same(one, other):
        return False
    if is_known(one) and is_known(other):
        return True
    return Unknown()


def _can_be_same(one, other):
    # Each Unknown is taken by itself, so the parts can be held against each other one by one.
    if isinstance(one, Unknown) or isinstance(other, Unknown):
        return True
    if isinstance(one, Touched) or isinstance(other, Touched):
        meet(one, other)
        return False
    pairs = facing(one, other)
    if pairs is not None:
        # All pairs, also behind one that can't be the same: touched texts are told wherever they meet.
        return all([_can_be_same(a, b) for a, b in pairs])
    if isinstance(one, tuple) and isinstance(other, tuple):
        become(one, other)
    return equal(one, other)
