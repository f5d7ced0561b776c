"""Which blocks and readings of a configuration refer to which."""

from planfirst.errors import BadConfig
from planfirst.problems import first_problem, references_in
from planfirst.scopes import scopes


def needs(config, kinds):
    """Return a dict from the addresses of all blocks and readings to those to which they refer directly."""
    found = scopes(config)
    problem = first_problem(found, kinds)
    if problem is not None:
        raise BadConfig(problem[0], problem[1])
    ways = ways_between(found)
    at = _least_on_a_ring(ways)
    if at is not None:
        raise BadConfig(at, "ring")
    return {node: _next_addresses(node, ways) for node in sorted(ways) if _is_address(node)}


# A node is the address of a block or reading, or the address of a call with "argument" and a
# parameter, or with "output" and an output, behind it: so it begins with its address always.


def _is_address(node):
    return len(node) == 3


def ways_between(found):
    """Return a dict from all nodes to lists of the nodes to which they refer by themselves."""
    ways = {}
    after = named_by_after(found)
    for scope in found:
        if scope.outer is not None:
            _put_call(ways, scope)
        for block in scope.config.blocks:
            at = (scope.path, block.kind, block.name)
            ways[at] = _named_by_block(block, scope) + after[at]
        for reading in scope.config.readings:
            at = (scope.path, reading.kind, reading.name)
            ways[at] = _named([reading.question[name] for name in reading.question], scope) + after[at]
    return ways


def named_by_after(found):
    """Return a dict from the addresses of all blocks and readings to those that after names.

    This is their own after, and that of the calls in which they stand.
    """
    addresses = [at for scope in found for at in _addresses_in(scope)]
    after = {}
    # What the calls around a scope name, by its path.
    around = {(): []}
    for scope in found:
        if scope.outer is not None:
            named = _behind(scope.call.after, scope.outer, addresses)
            around[scope.path] = around[scope.outer.path] + named
        for one in (*scope.config.blocks, *scope.config.readings):
            after[(scope.path, one.kind, one.name)] = _behind(one.after, scope, addresses) + around[scope.path]
    return after


def named_directly(expression, scope, ways):
    """Return the addresses of the blocks and readings to which an expression in this scope refers directly."""
    found = {}
    for node in _named([expression], scope):
        if _is_address(node):
            found[node] = True
            continue
        for at in _next_addresses(node, ways):
            found[at] = True
    return sorted(found)


def _addresses_in(scope):
    return [(scope.path, one.kind, one.name) for one in (*scope.config.blocks, *scope.config.readings)]


def _put_call(ways, scope):
    """Put the arguments and outputs of the call that brings this scope into the ways."""
    arguments = scope.call.arguments
    for name in arguments:
        ways[_argument(scope, name)] = _named([arguments[name]], scope.outer)
    for name in scope.outputs:
        ways[_output(scope, name)] = _named([scope.outputs[name]], scope)


def _argument(scope, name):
    return (scope.outer.path, "", scope.call.name, "argument", name)


def _output(scope, name):
    return (scope.outer.path, "", scope.call.name, "output", name)


def _named_by_block(block, scope):
    expressions = [block.attributes[name] for name in block.attributes]
    if block.many is not None:
        expressions.append(block.many[1])
    if block.ahead is not None:
        expressions.append(block.ahead)
    return _named(expressions, scope) + [(scope.path, one[0], one[1]) for one in block.replaced_by]


def _named(expressions, scope):
    """Return the nodes to which the expressions refer."""
    nodes = []
    for expression in expressions:
        for reference in references_in(expression):
            word = reference[0]
            if word in ("of", "at", "each"):
                nodes.append((scope.path, reference[1], reference[2]))
            elif word == "out":
                nodes.append(_output(scope.inner[reference[1]], reference[2]))
            elif word == "param" and scope.call is not None and reference[1] in scope.call.arguments:
                nodes.append(_argument(scope, reference[1]))
    return nodes


def _behind(after, scope, addresses):
    """Return the addresses of the blocks and readings that after names, all in a call for its name."""
    found = []
    for one in after:
        if isinstance(one, str):
            path = (*scope.path, one)
            found.extend([at for at in addresses if at[0][:len(path)] == path])
        else:
            found.append((scope.path, one[0], one[1]))
    return found


def _next_addresses(node, ways):
    """Return the addresses to which the ways from the node come first, sorted."""
    return tuple(sorted([one for one in _reached(node, ways, False) if _is_address(one)]))


def _reached(node, ways, on):
    """Return a dict of the nodes to which the ways from the node come; on tells if they go on behind addresses."""
    seen = {}
    waiting = list(ways[node])
    while waiting:
        one = waiting.pop()
        if one not in seen:
            seen[one] = True
            if on or not _is_address(one):
                waiting.extend(ways[one])
    return seen


def _least_on_a_ring(ways):
    """Return the least address of a node from which a way comes back to it, or None."""
    for node in sorted(_endless(ways)):
        if node in _reached(node, ways, True):
            return node[:3]
    return None


def _endless(ways):
    """Return the nodes from which a way can be gone on for ever: what is on a ring is among them."""
    users = {node: [] for node in ways}
    for node in ways:
        for one in ways[node]:
            users[one].append(node)
    left = {node: len(ways[node]) for node in ways}
    ended = [node for node in ways if left[node] == 0]
    while ended:
        node = ended.pop()
        for user in users[node]:
            left[user] -= 1
            if left[user] == 0:
                ended.append(user)
    return [node for node in ways if left[node] > 0]
