"""What is wanted of one instance: its values, and what becomes of them."""

from planfirst.equality import equal
from planfirst.kinds import given_names, surrounded
from planfirst.values import Unknown, same


def expressed(block, kind, path, own, valuing):
    """Return what the expressions of a block come to, for all given attributes in their order."""
    found = {}
    for name in given_names(kind):
        found[name] = None
        if name in block.attributes:
            found[name] = valuing.value(block.attributes[name], path, own)
    return found


def wanted_with(block, kind, told, prior):
    """Return the wanted values with a prior object that has these attributes."""
    found = {}
    for row in kind.given:
        name = row[0]
        keeps = name in block.ignored or row[1] == "filled" and told[name] is None
        found[name] = prior[name] if keeps else told[name]
    return found


def wanted_without(kind, told):
    """Return the wanted values without a prior object."""
    found = {}
    for row in kind.given:
        is_chosen = row[1] == "filled" and told[row[0]] is None
        found[row[0]] = Unknown() if is_chosen else told[row[0]]
    return found


def first_lacking(kind, wanted):
    """Return the first wanted attribute that is not given, or None."""
    for row in kind.given:
        if row[1] == "wanted" and wanted[row[0]] is None:
            return row[0]
    return None


def unsure_names(kind, wanted, prior):
    """Return the given attributes whose wanted values are not surely the prior ones."""
    return [name for name in given_names(kind) if same(wanted[name], prior[name]) is not True]


def differing(kind, wanted, prior):
    """Return the known wanted values that are not the prior ones."""
    return {name: wanted[name] for name in given_names(kind) if not equal(wanted[name], prior[name])}


def all_attributes(kind, wanted, tag):
    """Return all attributes behind a making or a change, by the given ones; tag: the id behind it."""
    found = {name: wanted[name] for name in wanted}
    for name, rule in kind.made:
        if rule[0] == "around":
            value = wanted[rule[1]]
            found[name] = Unknown() if isinstance(value, Unknown) else surrounded(rule, value)
        else:
            found[name] = Unknown()
    found["id"] = tag
    return found
