"""Kinds: which attributes objects of one kind have, and what becomes of them."""

from planfirst.equality import Valued
from planfirst.errors import NoKind
from planfirst.touched import Touched, joined
from planfirst.values import are_unlike, is_integer, is_name

SORTS = ("wanted", "open", "filled")
MOST_ATTRIBUTES = 8


class Kind(Valued):
    """A kind of objects."""

    def __init__(self, name, given, made, *, single=None, holds=()):
        part = _wrong_part(name, given, made, single, holds)
        if part is not None:
            raise NoKind(part)
        self.name = name
        self.given = given
        self.made = made
        self.single = single
        self.holds = holds

    def parts(self):
        return (self.name, self.given, self.made, self.single, self.holds)


def given_names(kind):
    """Return the names of the given attributes of a kind, in their order."""
    return [row[0] for row in kind.given]


def attribute_names(kind):
    """Return the names of all attributes of a kind, the given ones first."""
    return given_names(kind) + [row[0] for row in kind.made]


def surrounded(rule, value):
    """Return what an attribute with this rule "around" is, if this is the value of the given one."""
    middle = value if isinstance(value, (str, Touched)) or is_integer(value) else ""
    return joined([rule[2], middle, rule[3]])


def _wrong_part(name, given, made, single, holds):
    if not is_name(name):
        return "name"
    if not _are_given(given):
        return "given"
    if not _are_made(made, given):
        return "made"
    names = [row[0] for row in given]
    if single is not None and not _is_among(single, names):
        return "single"
    if not _are_held(holds, names):
        return "holds"
    return None


def _is_among(thing, names):
    return isinstance(thing, str) and thing in names


def _are_given(rows):
    if not isinstance(rows, tuple) or not all([_is_given(row) for row in rows]):
        return False
    return are_unlike([row[0] for row in rows])


def _is_given(row):
    if not isinstance(row, tuple) or len(row) != 4:
        return False
    name, sort, forces, reading = row
    if not is_name(name) or not _is_among(sort, SORTS) or not isinstance(forces, bool):
        return False
    return reading is None or _is_reading(reading)


def _is_reading(thing):
    if not isinstance(thing, dict):
        return False
    return all([isinstance(key, str) and isinstance(thing[key], str) for key in thing])


def _are_made(rows, given):
    # A rule may go around what the world tells as it is kept, and nothing else.
    plain = [row[0] for row in given if row[3] is None]
    if not isinstance(rows, tuple) or not all([_is_made(row, plain) for row in rows]):
        return False
    rules = [row[1] for row in rows]
    if not rows or rows[0] != ("id", ("id",)) or rules.count(("id",)) != 1:
        return False
    names = [row[0] for row in given] + [row[0] for row in rows]
    return are_unlike(names) and len(names) <= MOST_ATTRIBUTES


def _is_made(row, plain):
    if not isinstance(row, tuple) or len(row) != 2:
        return False
    name, rule = row
    if not is_name(name) or not isinstance(rule, tuple):
        return False
    if rule in (("id",), ("mark",)):
        return True
    if len(rule) != 4 or rule[0] != "around" or not _is_among(rule[1], plain):
        return False
    return isinstance(rule[2], str) and isinstance(rule[3], str)


def _are_held(thing, names):
    if not isinstance(thing, tuple) or not all([_is_among(name, names) for name in thing]):
        return False
    return are_unlike(list(thing))
