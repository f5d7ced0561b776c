"""Where the expressions of a configuration stand: at the top of it, or in a call."""


class Scope:
    """A configuration at its place; the names in its expressions are looked up here."""

    def __init__(self, config, path, call, outer):
        self.config = config
        self.path = path
        # The call that brings it here and the scope around it, both None at the top.
        self.call = call
        self.outer = outer
        # The scopes of its own calls, by their names.
        self.inner = {}
        self.params = [param if isinstance(param, str) else param[0] for param in config.params]
        self.defaults = {param[0]: param[1] for param in config.params if isinstance(param, tuple)}
        self.blocks = {(block.kind, block.name): block for block in config.blocks}
        self.readings = {(reading.kind, reading.name): reading for reading in config.readings}
        self.outputs = {name: expression for name, expression in config.outputs}


def scopes(config):
    """Return the scopes of the configuration and of all calls, each behind the one around it."""
    found = []
    waiting = [Scope(config, (), None, None)]
    while waiting:
        scope = waiting.pop()
        found.append(scope)
        for call in scope.config.calls:
            inner = Scope(call.config, (*scope.path, call.name), call, scope)
            scope.inner[call.name] = inner
            waiting.append(inner)
    return found
