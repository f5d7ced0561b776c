"""What is wrong with a configuration, but for rings."""

from planfirst.expressions import parts_of
from planfirst.kinds import Kind, attribute_names, given_names

REFERRING = ("param", "own", "out", "of", "at", "each")
READING_ATTRIBUTES = ("ids", "size")
OWN_WORDS_BY_MANY = {"count": ("index",), "keys": ("key", "value")}


def references_in(expression):
    """Return the expressions in this one (itself too) that refer to something by themselves, from left to right."""
    found = []
    waiting = [expression]
    while waiting:
        one = waiting.pop()
        if one[0] in REFERRING:
            found.append(one)
        waiting.extend(parts_of(one)[::-1])
    return found


def first_problem(found, kinds):
    """Return the address and the word of the first problem in these scopes, or None."""
    rows = []
    for scope in found:
        rows.extend(_rows_of(scope, kinds))
    wrong = sorted([(at, word) for at, word in rows if word is not None])
    return wrong[0] if wrong else None


def _rows_of(scope, kinds):
    """Return (address, word) for all that stands in the scope, the word None where nothing is wrong."""
    rows = []
    for block in scope.config.blocks:
        rows.append(((scope.path, block.kind, block.name), _problem_of_block(block, scope, kinds)))
    for reading in scope.config.readings:
        rows.append(((scope.path, reading.kind, reading.name), _problem_of_reading(reading, scope, kinds)))
    for call in scope.config.calls:
        rows.append(((scope.path, "", call.name), _problem_of_call(call, scope, kinds)))
    if scope.outer is None and not _are_outputs_there(scope, kinds):
        rows.append((((), "", ""), "output"))
    return rows


def _problem_of_block(block, scope, kinds):
    kind = _kind_of(block.kind, kinds)
    if kind is None or kind.name != block.kind:
        return "kind"
    names = given_names(kind)
    if not all([name in names for name in (*block.attributes, *block.ignored)]):
        return "attribute"
    if not all([row[0] in block.attributes for row in kind.given if row[1] == "wanted"]):
        return "wanted"
    return None if _is_block_there(block, scope, kinds) else "name"


def _is_block_there(block, scope, kinds):
    """Whether all is there to which the block refers."""
    own = () if block.many is None else OWN_WORDS_BY_MANY[block.many[0]]
    expressions = [block.attributes[name] for name in block.attributes]
    if block.ahead is not None:
        expressions.append(block.ahead)
    if not _are_there(expressions, scope, kinds, own):
        return False
    # How often a block stands is reckoned ahead of its instances, so it has no words of its own there.
    if block.many is not None and not _are_there([block.many[1]], scope, kinds, ()):
        return False
    return _is_after_there(block.after, scope) and _is_replacing_there(block.replaced_by, scope, kinds)


def _problem_of_reading(reading, scope, kinds):
    kind = _kind_of(reading.kind, kinds)
    if kind is None or kind.name != reading.kind:
        return "kind"
    names = given_names(kind)
    if not all([name in names for name in reading.question]):
        return "attribute"
    expressions = [reading.question[name] for name in reading.question]
    if not _are_there(expressions, scope, kinds, ()) or not _is_after_there(reading.after, scope):
        return "name"
    return None


def _problem_of_call(call, scope, kinds):
    inner = scope.inner[call.name]
    if not all([name in inner.params for name in call.arguments]):
        return "argument"
    if not all([name in call.arguments or name in inner.defaults for name in inner.params]):
        return "argument"
    expressions = [call.arguments[name] for name in call.arguments]
    if not _are_there(expressions, scope, kinds, ()) or not _is_after_there(call.after, scope):
        return "name"
    return None if _are_outputs_there(inner, kinds) else "output"


def _are_outputs_there(scope, kinds):
    return _are_there([scope.outputs[name] for name in scope.outputs], scope, kinds, ())


def _are_there(expressions, scope, kinds, own):
    for expression in expressions:
        if not all([_is_there(one, scope, kinds, own) for one in references_in(expression)]):
            return False
    return True


def _is_there(reference, scope, kinds, own):
    word = reference[0]
    name = reference[1]
    if word == "own":
        return name in own
    if word == "param":
        return name in scope.params
    if word == "out":
        return name in scope.inner and reference[2] in scope.inner[name].outputs
    what = (name, reference[2])
    attribute = reference[-1]
    if what in scope.readings:
        return word == "of" and attribute in READING_ATTRIBUTES
    if what not in scope.blocks or (word == "of") != (scope.blocks[what].many is None):
        return False
    return _has_attribute(name, attribute, kinds)


def _is_after_there(after, scope):
    for one in after:
        if one not in scope.blocks and one not in scope.readings and one not in scope.inner:
            return False
    return True


def _is_replacing_there(replaced_by, scope, kinds):
    for one in replaced_by:
        if one[:2] not in scope.blocks:
            return False
        if len(one) == 3 and not _has_attribute(one[0], one[2], kinds):
            return False
    return True


def _has_attribute(name, attribute, kinds):
    kind = _kind_of(name, kinds)
    return kind is not None and attribute in attribute_names(kind)


def _kind_of(name, kinds):
    """Return what kinds has under this name, or None if that is no Kind."""
    kind = kinds.get(name)
    return kind if isinstance(kind, Kind) else None
