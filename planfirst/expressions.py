"""Expressions, and the values to which they come."""

from planfirst.errors import Misfit, NotGeneric
from planfirst.touched import Touched, joined
from planfirst.values import Unknown, fresh, is_integer, is_tuple, same

# How many items an expression with this word has, the word among them.
LENGTHS = {
    "say": 2, "param": 2, "own": 2, "out": 3,
    "of": 4, "at": 5, "each": 4,
    "tuple": 2, "map": 2, "join": 2,
    "if": 4, "same": 3, "size": 2, "pick": 3,
}


def is_formed(thing):
    """Whether it has the form of an expression, whatever the expressions inside it are."""
    if not isinstance(thing, tuple) or not thing or not isinstance(thing[0], str):
        return False
    word = thing[0]
    if LENGTHS.get(word) != len(thing):
        return False
    if word in ("tuple", "join"):
        return isinstance(thing[1], tuple)
    if word == "map":
        return isinstance(thing[1], tuple) and all([_is_entry(item) for item in thing[1]])
    return all([isinstance(name, str) for name in names_in(thing)])


def _is_entry(thing):
    return isinstance(thing, tuple) and len(thing) == 2 and isinstance(thing[0], str)


def names_in(expression):
    """Return the names of what this expression itself refers to."""
    word = expression[0]
    if word in ("param", "own", "out", "of", "each"):
        return list(expression[1:])
    if word == "at":
        return [expression[1], expression[2], expression[4]]
    return []


def parts_of(expression):
    """Return the expressions directly inside this one, from left to right."""
    word = expression[0]
    if word in ("tuple", "join"):
        return list(expression[1])
    if word == "map":
        return [item[1] for item in expression[1]]
    if word == "at":
        return [expression[3]]
    if word in ("if", "same", "size", "pick"):
        return list(expression[1:])
    return []


def _said(expression, parts, names):
    return expression[1]


def _named(expression, parts, names):
    # ("param", p) and ("own", word) are themselves the references.
    return _referred(expression, expression, names)


def _out(expression, parts, names):
    outputs = _referred(expression, ("call", expression[1]), names)
    return _attribute(expression, outputs, expression[2])


def _of(expression, parts, names):
    return _attribute(expression, _block(expression, names), expression[3])


def _at(expression, parts, names):
    instance = _picked(expression, _block(expression, names), parts[0])
    return _attribute(expression, instance, expression[4])


def _each(expression, parts, names):
    block = _block(expression, names)
    name = expression[3]
    if isinstance(block, Unknown):
        return Unknown()
    if is_tuple(block):
        return tuple([_attribute(expression, instance, name) for instance in block])
    if isinstance(block, dict):
        return {key: _attribute(expression, block[key], name) for key in block}
    raise Misfit(expression)


def _tuple(expression, parts, names):
    return tuple(parts)


def _map(expression, parts, names):
    return {item[0]: part for item, part in zip(expression[1], parts)}


def _join(expression, parts, names):
    for part in parts:
        if not (isinstance(part, (str, Touched, Unknown)) or is_integer(part)):
            raise Misfit(expression)
    if any([isinstance(part, Unknown) for part in parts]):
        return Unknown()
    return joined(parts)


def _same(expression, parts, names):
    return same(parts[0], parts[1])


def _size(expression, parts, names):
    thing = parts[0]
    if isinstance(thing, Unknown):
        return Unknown()
    if isinstance(thing, Touched):
        raise NotGeneric(None)
    if is_tuple(thing) or isinstance(thing, (dict, str)):
        return len(thing)
    raise Misfit(expression)


def _pick(expression, parts, names):
    return _picked(expression, parts[0], parts[1])


def _referred(expression, reference, names):
    if reference not in names:
        raise Misfit(expression)
    return names[reference]


def _block(expression, names):
    return _referred(expression, ("block", expression[1], expression[2]), names)


def _attribute(expression, thing, name):
    if isinstance(thing, Unknown):
        return Unknown()
    if not isinstance(thing, dict) or name not in thing:
        raise Misfit(expression)
    return thing[name]


def _picked(expression, thing, place):
    if not _can_have(thing, place):
        raise Misfit(expression)
    if isinstance(thing, Unknown) or isinstance(place, Unknown):
        return Unknown()
    return thing[place]


def _has_touched(table, text):
    """Whether the map has a touched text among its keys: it has not, but for the texts by which it is one."""
    for key in table:
        text.meet(key)
    return False


def _can_have(thing, place):
    """Whether the thing, as far as it is known, can have an item at this index or key."""
    if not (is_tuple(thing) or isinstance(thing, (dict, Unknown))):
        return False
    if isinstance(place, Unknown):
        return True
    if isinstance(place, Touched):
        return isinstance(thing, Unknown) or isinstance(thing, dict) and _has_touched(thing, place)
    if isinstance(place, str):
        return isinstance(thing, Unknown) or isinstance(thing, dict) and place in thing
    if not is_integer(place) or place < 0:
        return False
    return isinstance(thing, Unknown) or is_tuple(thing) and place < len(thing)


ACTIONS = {
    "say": _said, "param": _named, "own": _named, "out": _out,
    "of": _of, "at": _at, "each": _each,
    "tuple": _tuple, "map": _map, "join": _join,
    "same": _same, "size": _size, "pick": _pick,
}


def reckon(expression, names):
    """Return the value of the expression; names is a dict from references to values."""
    return fresh(_reckoned(expression, names))


def _reckoned(expression, names):
    # It calls itself and no other on the way down, so that 201 expressions within one another
    # take 201 calls, far from where Python stops.
    if not is_formed(expression):
        raise Misfit(expression)
    if expression[0] == "if":
        choice = _reckoned(expression[1], names)
        if not isinstance(choice, Unknown):
            return _reckoned(_taken(expression, choice), names)
        one = _reckoned(expression[2], names)
        other = _reckoned(expression[3], names)
        return _either(one, other)
    parts = []
    for part in parts_of(expression):
        parts.append(_reckoned(part, names))
    action = ACTIONS[expression[0]]
    return action(expression, parts, names)


def _taken(expression, choice):
    if choice is True:
        return expression[2]
    if choice is False:
        return expression[3]
    raise Misfit(expression)


def _either(one, other):
    if same(one, other) is True:
        return one
    return Unknown()
