"""Equality as the objects of the package have it: of one sort in all parts."""


def equal(one, other):
    """Whether two objects are equal and of one sort in all parts (1 and True are not)."""
    if not (type(one) is type(other)):
        return False
    if isinstance(one, (tuple, list)):
        return len(one) == len(other) and all([equal(a, b) for a, b in zip(one, other)])
    if isinstance(one, dict):
        return _equal_dicts(one, other)
    return one == other


def _equal_dicts(one, other):
    # A look-up takes 1 for True, so the keys themselves are held against each other too.
    theirs = {key: key for key in other}
    for key in one:
        if key not in theirs or not equal(key, theirs[key]) or not equal(one[key], other[key]):
            return False
    return len(one) == len(other)
