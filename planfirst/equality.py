"""Equality as the objects of the package have it: of one sort in all parts."""


def equal(one, other):
    """Whether two objects are equal and of one sort in all parts (1 and True are not)."""
    # Pair by pair and not by calls within calls: expressions go too deep into one another for these.
    waiting = [(one, other)]
    while waiting:
        left, right = waiting.pop()
        if not (type(left) is type(right)):
            return False
        if isinstance(left, (tuple, list)):
            if len(left) != len(right):
                return False
            waiting.extend(list(zip(left, right)))
        elif isinstance(left, dict):
            pairs = _pairs_of_dicts(left, right)
            if pairs is None:
                return False
            waiting.extend(pairs)
        elif not left == right:
            return False
    return True


def _pairs_of_dicts(one, other):
    """Return what must be equal for the dicts to be equal, or None if a key is in only one of them."""
    if len(one) != len(other):
        return None
    theirs = {key: key for key in other}
    pairs = []
    for key in one:
        if key not in theirs:
            return None
        # A look-up takes 1 for True, so the keys themselves are held against each other too.
        pairs.append((key, theirs[key]))
        pairs.append((one[key], other[key]))
    return pairs


class Valued:
    """An object that is equal to another one if they have the same class and their parts are equal."""

    def parts(self):
        """Return the values of the object, those that tell it from others of its class."""
        return ()

    def __eq__(self, other):
        return type(self) is type(other) and equal(self.parts(), other.parts())
