"""Values of expressions at their places, by what is known of blocks and readings."""

from planfirst.expressions import reckon
from planfirst.problems import references_in


class Valuing:
    """Reckons expressions where they stand in a configuration."""

    def __init__(self, outline, passed, known):
        self._outline = outline
        self._passed = passed
        # The values of blocks and readings, by their addresses; more may come while this is used.
        self._known = known
        # The values of arguments and outputs: what they refer to is known before they are asked.
        self._told = {}

    def value(self, expression, path, own):
        """Return the value of the expression in the scope with this path; own: its own words."""
        self._tell_all_named(expression, path)
        return self._reckoned(expression, path, own)

    def _reckoned(self, expression, path, own):
        names = {("own", word): own[word] for word in own}
        for reference in references_in(expression):
            word = reference[0]
            if word == "param":
                names[reference] = self._param(path, reference[1])
            elif word == "out":
                node = ((*path, reference[1]), "out", reference[2])
                outputs = names.setdefault(("call", reference[1]), {})
                outputs[reference[2]] = self._told[node]
            elif word != "own":
                at = (path, reference[1], reference[2])
                names[("block", reference[1], reference[2])] = self._known[at]
        return reckon(expression, names)

    def _param(self, path, name):
        node = (path, "param", name)
        if node in self._told:
            return self._told[node]
        if not path and name in self._passed:
            return self._passed[name]
        return self._outline.scopes[path].defaults[name]

    def _tell_all_named(self, expression, path):
        """Reckon the arguments and outputs that the expression names, each behind those that it names itself."""
        waiting = [(node, False) for node in self._nodes(expression, path)[::-1]]
        while waiting:
            node, is_ready = waiting.pop()
            if node in self._told:
                continue
            inner, inner_path = self._expression_of(node)
            if is_ready:
                self._told[node] = self._reckoned(inner, inner_path, {})
            else:
                waiting.append((node, True))
                waiting.extend([(one, False) for one in self._nodes(inner, inner_path)[::-1]])

    def _nodes(self, expression, path):
        """Return the arguments and outputs that the expression names, from left to right."""
        scope = self._outline.scopes[path]
        nodes = []
        for reference in references_in(expression):
            if reference[0] == "out":
                nodes.append(((*path, reference[1]), "out", reference[2]))
            elif reference[0] == "param" and scope.call is not None and reference[1] in scope.call.arguments:
                nodes.append((path, "param", reference[1]))
        return nodes

    def _expression_of(self, node):
        """Return the expression of an argument or output, and the path of the scope in which it stands."""
        path, word, name = node
        scope = self._outline.scopes[path]
        if word == "param":
            return scope.call.arguments[name], scope.outer.path
        return scope.outputs[name], path


def block_value(block, told):
    """Return the value of a block of which these are the attributes of the instances, by their keys."""
    if block.many is None:
        return told[None]
    if block.many[0] == "count":
        return tuple([told[index] for index in sorted(told)])
    return {key: told[key] for key in told}


def known_values(outline, told):
    """Return the values of blocks and readings, by the attributes of instances and readings at their addresses."""
    parts = {at: {} for at in outline.blocks}
    for at in told:
        if len(at) == 4:
            parts[at[:3]][at[3]] = told[at]
    # A block that stands once has no instance here only where it was not planned, and is asked nowhere then.
    there = [at for at in parts if parts[at] or outline.blocks[at].many is not None]
    known = {at: block_value(outline.blocks[at], parts[at]) for at in there}
    for at in outline.readings:
        if at in told:
            known[at] = told[at]
    return known
