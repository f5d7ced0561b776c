"""How steps are done: on the objects of a state and on the world."""

from planfirst.asking import answer, asked
from planfirst.errors import BadMany, Gone, InUse, Misfit, Taken, Unsure
from planfirst.many import owns
from planfirst.states import Object, State
from planfirst.values import Unknown, is_known
from planfirst.valuing import Valuing, known_values
from planfirst.wanting import differing, expressed, first_lacking, wanted_with


class Applying:
    """A state and a world while the steps of a plan are done."""

    def __init__(self, plan, world, fails):
        self._plan = plan
        self._outline = plan.outline
        self._world = world
        self._fails = fails
        self._objects = {at: plan.base.objects[at] for at in plan.base.objects}
        self._deposed = {at: plan.base.deposed[at] for at in plan.base.deposed}
        # The addresses of what was made or changed, or came to nothing.
        self._had = {}
        # What readings told that were read now.
        self._told = {}
        # Where the old objects of first replacements wait, by their addresses.
        self._waiting = {}

    def do(self, step):
        """Do a step, and return how it ended."""
        word, at = step[0], step[1]
        if word == "destroy":
            return self._destroy(step)
        if word == "read":
            return self._read(step)
        wanted = self._wanted(at, None if word == "make" else self._objects[at].attributes)
        if wanted is None:
            return "failed"
        if word == "make":
            return self._make(step, wanted)
        return self._change(step, wanted)

    def reached(self, ends, serial):
        """Return the state as it is now, behind steps that ended so; the serial is the one it shall have."""
        objects = {at: self._written_anew(at, ends) for at in self._objects}
        return State(objects, self._deposed, self._outputs_left(), serial)

    def _wanted(self, at, prior):
        """Return the values that the instance shall have, by what is known now; None if they can't be."""
        block = self._outline.blocks[at[:3]]
        kind = self._plan.kinds[block.kind]
        now = self._valuing_by({one: self._attributes_now(one) for one in self._plan.planned})
        try:
            own = owns(block, at[:3], at[0], now).get(at[3])
            if own is None or self._was_unknown(block, at) and now.value(block.ahead, at[0], own) is not True:
                return None
            wanted = expressed(block, kind, at[0], own, now)
        except (BadMany, Misfit, Unsure):
            return None
        if prior is not None:
            wanted = wanted_with(block, kind, wanted, prior)
        return wanted if first_lacking(kind, wanted) is None else None

    def _was_unknown(self, block, at):
        """Whether the plan could not tell yet if the instance may go ahead."""
        if block.ahead is None:
            return False
        planned = self._valuing_by(self._plan.planned)
        own = owns(block, at[:3], at[0], planned)[at[3]]
        return isinstance(planned.value(block.ahead, at[0], own), Unknown)

    def _valuing_by(self, told):
        return Valuing(self._outline, self._plan.passed, known_values(self._outline, told))

    def _attributes_now(self, at):
        """Return the attributes of an instance or a reading as far as they are known now."""
        if at in self._had:
            return self._objects[at].attributes
        return self._told.get(at, self._plan.planned[at])

    def _make(self, step, wanted):
        at = step[1]
        way = self._fails.get(step)
        if way == "before":
            return "failed"
        try:
            tag = self._world.make(at[1], wanted)
        except Taken:
            return "failed"
        if at in self._objects:
            # An object that still stands here is destroyed later: the replacement is a first one.
            self._depose(at)
        self._put(at, tag, self._world.things()[tag][1], way == "behind")
        if way == "behind":
            return "failed"
        self._had[at] = True
        return "done"

    def _depose(self, at):
        number = max([number for one, number in self._deposed if one == at], default=0) + 1
        self._waiting[at] = (at, number)
        self._deposed[self._waiting[at]] = self._objects.pop(at)

    def _change(self, step, wanted):
        at = step[1]
        old = self._objects[at]
        others = differing(self._plan.kinds[at[1]], wanted, old.attributes)
        if others:
            if step in self._fails:
                return "failed"
            try:
                self._world.change(old.tag, others)
            except (Gone, Taken):
                return "failed"
            kept = self._world.things()[old.tag][1]
            # What was not changed stays as it was told, which may be otherwise than the world keeps it.
            self._put(at, old.tag, {**kept, **wanted}, False)
        self._had[at] = True
        return "done" if others else "nothing"

    def _put(self, at, tag, attributes, tainted):
        needs = self._outline.blocks_needed(at[:3])
        self._objects[at] = Object(tag, attributes, tainted, needs, at[:3] in self._outline.first)

    def _destroy(self, step):
        if step in self._fails:
            return "failed"
        at = step[1]
        place = (at, step[2]) if len(step) == 3 else self._waiting.get(at, at)
        things = self._objects if len(place) == 4 else self._deposed
        try:
            self._world.destroy(things[place].tag)
        except InUse:
            return "failed"
        except Gone:
            pass
        del things[place]
        return "done"

    def _read(self, step):
        at = step[1]
        if step in self._fails:
            return "failed"
        reading = self._outline.readings[at]
        now = self._valuing_by({one: self._attributes_now(one) for one in self._plan.planned})
        try:
            question = asked(reading, self._plan.kinds[reading.kind], at[0], now)
        except Misfit:
            return "failed"
        self._told[at] = answer(self._world, reading.kind, question)
        return "done"

    def _written_anew(self, at, ends):
        """Return the object with what its block needs now, if its instance is wanted and its step did not fail."""
        thing = self._objects[at]
        if at not in self._plan.planned:
            return thing
        word = self._plan.deeds.get(at)
        if word is not None and ends.get((word, at)) not in ("done", "nothing"):
            return thing
        needs = self._outline.blocks_needed(at[:3])
        return Object(thing.tag, thing.attributes, thing.tainted, needs, at[:3] in self._outline.first)

    def _outputs_left(self):
        """Return the outputs by the objects that stand now, those that are known."""
        if self._plan.targets is not None:
            return self._plan.base.outputs
        if self._plan.clears:
            return {}
        valuing = self._valuing_by({at: self._attributes_left(at) for at in self._plan.planned})
        outputs = self._outline.scopes[()].outputs
        found = {}
        for name in outputs:
            try:
                value = valuing.value(outputs[name], (), {})
            except Misfit:
                continue
            if is_known(value):
                found[name] = value
        return found

    def _attributes_left(self, at):
        """Return the attributes of an instance by the object that stands, or of a reading."""
        if len(at) == 3:
            return self._attributes_now(at)
        return self._objects[at].attributes if at in self._objects else Unknown()
