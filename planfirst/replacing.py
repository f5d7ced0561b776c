"""By which instances others are replaced along with them."""

from planfirst.addresses import place
from planfirst.values import same


def instances_by_which(what, path, deeds, planned, objects):
    """Return the sorted instances by which one of replaced_by, in the scope with this path, is so."""
    block = (path, what[0], what[1])
    found = [at for at in planned if at[:3] == block]
    if len(what) == 2:
        found = [at for at in found if deeds.get(at) in ("change", "replace")]
    else:
        name = what[2]
        standing = [at for at in found if at in objects]
        found = [at for at in standing if same(planned[at][name], objects[at].attributes[name]) is not True]
    return sorted(found, key=place)
