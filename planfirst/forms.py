"""The forms of what the parts of a configuration are made of."""

from planfirst.addresses import is_key
from planfirst.expressions import is_formed, names_in, parts_of
from planfirst.values import are_unlike, is_name, is_value

OWN_WORDS = ("key", "value", "index")


def is_expression(thing):
    """Whether it is an expression, with all that is inside it."""
    waiting = [thing]
    while waiting:
        one = waiting.pop()
        if not is_formed(one) or not _is_exact(one):
            return False
        waiting.extend(parts_of(one))
    return True


def _is_exact(expression):
    # Reckoning looks up whatever text it is handed; the forms as they are told want names.
    word = expression[0]
    if word == "say":
        return is_value(expression[1])
    if word == "own":
        return expression[1] in OWN_WORDS
    if word == "map":
        return are_unlike([item[0] for item in expression[1]])
    return all([is_name(name) for name in names_in(expression)])


def are_expressions(thing):
    """Whether it is a dict from names to expressions."""
    if not isinstance(thing, dict):
        return False
    return all([is_name(name) and is_expression(thing[name]) for name in thing])


def is_many(thing):
    """Whether it tells how often a block stands."""
    if thing is None:
        return True
    if not isinstance(thing, tuple) or len(thing) != 2:
        return False
    return thing[0] in ("count", "keys") and is_expression(thing[1])


def are_names(thing):
    """Whether it is a tuple of names."""
    return isinstance(thing, tuple) and all([is_name(name) for name in thing])


def are_after(thing):
    """Whether it is a tuple of (kind, name) and of names of calls."""
    return isinstance(thing, tuple) and all([is_name(one) or are_names(one) and len(one) == 2 for one in thing])


def are_replacing(thing):
    """Whether it is a tuple of (kind, name) and (kind, name, attribute)."""
    return isinstance(thing, tuple) and all([are_names(one) and len(one) in (2, 3) for one in thing])


def is_place(thing):
    """Whether it is the address of a block or of an instance without a path."""
    if not isinstance(thing, tuple) or len(thing) not in (2, 3):
        return False
    return are_names(thing[:2]) and (len(thing) == 2 or is_key(thing[2]))
