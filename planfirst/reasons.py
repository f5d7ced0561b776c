"""Why a plan replaces or changes an instance."""

from planfirst.addresses import is_instance_address, place
from planfirst.replacing import instances_by_which


def causes(plan, address):
    """Return a tuple of (reason, addresses) for the reasons of the instance, () for other addresses."""
    found = []
    for reason in _reasons_of(plan, address):
        addresses = []
        if reason[0] in ("forced", "differs"):
            addresses = _busy_among(plan, plan.outline.named_in(address[:3], reason[1]))
        elif reason[0] == "by":
            addresses = instances_by_which(reason[1], address[0], plan.deeds, plan.planned, plan.base.objects)
        found.append((reason, tuple(addresses)))
    return tuple(found)


def why(plan, address):
    """Return a shortest way from the address by such addresses to one that has none, of several the least."""
    ways = [(address,)]
    seen = {}
    while True:
        further = []
        for way in ways:
            following = _following(plan, way[-1])
            if not following:
                return way
            for at in following:
                # Ways come in their order, so the first one that comes to an address is the least.
                if at not in seen:
                    seen[at] = True
                    further.append((*way, at))
        ways = further


def _reasons_of(plan, address):
    return plan.reasons[address] if is_instance_address(address) and address in plan.reasons else ()


def _following(plan, address):
    found = {at: True for _, addresses in causes(plan, address) for at in addresses}
    return sorted(found, key=place)


def _busy_among(plan, blocks):
    """Return the sorted instances and readings with a deed that are of these blocks or are these readings."""
    return sorted([at for at in plan.deeds if at[:3] in blocks], key=place)
