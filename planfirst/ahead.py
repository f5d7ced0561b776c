"""Which steps of a plan must go ahead of which."""

from planfirst.addresses import instance_of, is_step, place_of_step
from planfirst.errors import Ring
from planfirst.graphs import levels, shortest_ring

FORWARD = ("make", "change", "read")


class Ahead:
    """The steps of a plan, sorted, and the rules by which one must go ahead of another; steps by their numbers."""

    def __init__(self, plan):
        self._base = plan.base
        self._outline = plan.outline
        self.steps = steps_of(plan.deeds)
        # The numbers of steps that make, change or read, and of those that destroy, by their blocks.
        self._forward = {}
        self._destroying = {}
        for number, step in enumerate(self.steps):
            table = self._forward if step[0] in FORWARD else self._destroying
            table.setdefault(step[1][:3], []).append(number)
        # The rules that hold whatever is first.
        self._fixed = [[] for _ in self.steps]
        self._put_needs()
        self._put_destroying()

    def behind(self, first):
        """Return for each step, sorted, those that must go behind it by a rule itself; first: the first blocks."""
        rows = [{later: True for later in row} for row in self._fixed]
        for number, step in enumerate(self.steps):
            if step[0] in ("make", "change") and step[1] in self._base.objects:
                for one, other in self._pairs_by_first(number, step, first):
                    rows[one][other] = True
        return [sorted(row) for row in rows]

    def numbers_of(self, told):
        """Return the numbers of these steps; None if one of them is no step of the plan, or comes twice."""
        numbers = {step: number for number, step in enumerate(self.steps)}
        found = {}
        for one in told:
            if not is_step(one) or one not in numbers or one in found:
                return None
            found[one] = numbers[one]
        return [found[one] for one in found]

    def _put_needs(self):
        """Put rule a: what is needed goes ahead of the makings, changes and reads of what needs it."""
        for block in self._forward:
            for other in self._outline.needed[block]:
                for one in self._forward.get(other, ()):
                    self._fixed[one].extend(self._forward[block])

    def _put_destroying(self):
        """Put rule b: the destroying of what needed a block goes ahead of the destroying of this block."""
        for block in self._destroying:
            for number in self._destroying[block]:
                self._fixed[number].extend(self._destroyed_in(self._object_of(number).needs, number))

    def _object_of(self, number):
        step = self.steps[number]
        return self._base.objects[step[1]] if len(step) == 2 else self._base.deposed[(step[1], step[2])]

    def _destroyed_in(self, blocks, number):
        """Return the steps that destroy objects of these blocks at other addresses than that of the step."""
        found = [one for block in blocks for one in self._destroying.get(block, ())]
        return [one for one in found if self.steps[one][1] != self.steps[number][1]]

    def _pairs_by_first(self, number, step, first):
        """Return the pairs of rules c and d of a step that changes an object or makes one in its place."""
        address = step[1]
        others = self._destroyed_in(self._base.objects[address].needs, number)
        if step[0] == "make":
            others.extend([one for one in self._destroying[address[:3]] if self.steps[one] == ("destroy", address)])
        return [(number, one) if self._is_first(one, first) else (one, number) for one in others]

    def _is_first(self, number, first):
        """Whether the object that this step destroys is first."""
        step = self.steps[number]
        if len(step) == 3:
            return True
        block = step[1][:3]
        if block in self._outline.blocks:
            return block in first
        return self._base.objects[step[1]].first


def ordered(plan):
    """Return the rules of a plan, what must go behind each step by a rule itself, and the rounds; all by numbers.

    Ring if there is a ring.
    """
    ahead = Ahead(plan)
    behind = ahead.behind(plan.outline.first)
    found = levels(behind)
    if found is None:
        raise Ring(steps_by(shortest_ring(behind), ahead))
    return ahead, behind, found


def steps_by(numbers, ahead):
    """Return the steps with these numbers."""
    return tuple([ahead.steps[number] for number in numbers])


def steps_of(deeds):
    """Return the sorted list of the steps of these deeds."""
    found = []
    for at in deeds:
        if deeds[at] == "replace":
            found.extend([("make", at), ("destroy", at)])
        elif len(at) == 2:
            found.append(("destroy", instance_of(at), at[1]))
        else:
            found.append((deeds[at], at))
    return sorted(found, key=place_of_step)
