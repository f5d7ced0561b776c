"""How a plan is made: block by block and reading by reading, each behind what it needs."""

from planfirst.addresses import place
from planfirst.asking import answer, asked, no_answer
from planfirst.errors import Lacking, Misfit, Refused, Unsure
from planfirst.many import owns
from planfirst.replacing import instances_by_which
from planfirst.valuing import Valuing, block_value
from planfirst.values import Unknown, is_known
from planfirst.wanting import all_attributes, expressed, first_lacking, unsure_names, wanted_with, wanted_without


class Planning:
    """A plan while it is made."""

    def __init__(self, outline, passed, kinds, base, world, replace, taking):
        self.outline = outline
        self._kinds = kinds
        self._base = base
        self._world = world
        self._replace = replace
        self._taking = taking
        # The values of the blocks and readings that were gone through.
        self._known = {}
        self._valuing = Valuing(outline, passed, self._known)
        # The blocks and readings with a deed, without the destroying of deposed objects.
        self._busy = {}
        # What is gone through now: the address of a block or reading, or () for the outputs.
        self.at = ()
        self.deeds = {}
        self.reasons = {}
        self.planned = {}

    def go_through(self):
        """Go through all blocks and readings that are taken."""
        for at in self.outline.order:
            if self._taking.takes(at):
                self._go_to(at)

    def sure_blocks(self):
        """Go through what is not unsure and needs nothing unsure, and return the sorted blocks among this."""
        sure = {}
        for at in self.outline.order:
            if not all([other in sure for other in self.outline.needed[at]]):
                continue
            try:
                self._go_to(at)
            except Unsure:
                continue
            sure[at] = True
        return sorted([at for at in sure if at in self.outline.blocks])

    def outputs_behind(self):
        """Return the outputs of the configuration by what was gone through."""
        self.at = ()
        scope = self.outline.scopes[()]
        return {name: self._valuing.value(scope.outputs[name], (), {}) for name in scope.outputs}

    def destroy_the_rest(self):
        """Destroy what is not wanted, and what is deposed."""
        for at in self._base.objects:
            if self._taking.takes_instance(at) and at not in self.planned:
                self.deeds[at] = "destroy"
        for at, number in self._base.deposed:
            if self._taking.takes_instance(at):
                self.deeds[(at, number)] = "destroy"

    def _go_to(self, at):
        self.at = at
        if at in self.outline.blocks:
            self._go_to_block(self.outline.blocks[at])
        else:
            self._go_to_reading(self.outline.readings[at])

    def _go_to_block(self, block):
        address = self.at
        found = owns(block, address, address[0], self._valuing)
        told = {}
        for key in found:
            at = (*address, key)
            if self._taking.takes_instance(at):
                self._go_to_instance(block, at, found[key])
                told[key] = self.planned[at]
        # In part it is taken only where nothing that is taken refers to it.
        if told or block.many is not None:
            self._known[address] = block_value(block, told)
        # A reading that asks for it is taken with the whole block, so all that is not wanted is destroyed then.
        if any([at[:3] == address and at not in self.planned for at in self._base.objects]):
            self._busy[address] = True

    def _go_to_instance(self, block, at, own):
        if block.ahead is not None:
            self._ask_ahead(block, at, own)
        kind = self._kinds[block.kind]
        told = expressed(block, kind, at[0], own, self._valuing)
        bare = wanted_without(kind, told)
        standing = self._base.objects.get(at)
        prior = None if standing is None or standing.tainted else standing.attributes
        wanted = bare if prior is None else wanted_with(block, kind, told, prior)
        _refuse_lacking(kind, at, wanted)
        if standing is None:
            self._put("make", at, all_attributes(kind, bare, Unknown()))
            return
        reasons = self._reasons_to_replace(block, kind, at, wanted, prior)
        if reasons:
            _refuse_lacking(kind, at, bare)
            self._put("replace", at, all_attributes(kind, bare, Unknown()))
            self.reasons[at] = reasons
            return
        names = unsure_names(kind, wanted, prior)
        if names:
            self._put("change", at, all_attributes(kind, wanted, prior["id"]))
            self.reasons[at] = tuple([("differs", name) for name in names])
            return
        self.planned[at] = {name: prior[name] for name in prior}

    def _put(self, word, at, attributes):
        self.deeds[at] = word
        self.planned[at] = attributes
        self._busy[at[:3]] = True

    def _ask_ahead(self, block, at, own):
        may_go = self._valuing.value(block.ahead, at[0], own)
        if may_go is False:
            raise Refused((at,))
        if not (may_go is True or isinstance(may_go, Unknown)):
            raise Misfit(block.ahead)

    def _reasons_to_replace(self, block, kind, at, wanted, prior):
        reasons = []
        if self._base.objects[at].tainted:
            reasons.append(("tainted",))
        if at in self._replace:
            reasons.append(("asked",))
        if prior is not None:
            unsure = unsure_names(kind, wanted, prior)
            reasons.extend([("forced", row[0]) for row in kind.given if row[2] and row[0] in unsure])
        named = {what: True for what in block.replaced_by}
        for what in named:
            if instances_by_which(what, at[0], self.deeds, self.planned, self._base.objects):
                reasons.append(("by", what))
        return tuple(reasons)

    def _go_to_reading(self, reading):
        address = self.at
        question = asked(reading, self._kinds[reading.kind], address[0], self._valuing)
        if is_known(question) and not any([at in self._busy for at in self.outline.after[address]]):
            attributes = answer(self._world, reading.kind, question)
        else:
            attributes = no_answer()
            self.deeds[address] = "read"
            self._busy[address] = True
        self.planned[address] = attributes
        self._known[address] = attributes


def _refuse_lacking(kind, at, wanted):
    name = first_lacking(kind, wanted)
    if name is not None:
        raise Lacking(at, name)


def refuse_never(deeds, outline):
    """Refuse deeds that destroy objects of blocks that may never be destroyed."""
    found = [at for at in deeds if len(at) == 4 and deeds[at] in ("replace", "destroy")]
    found = [at for at in found if at[:3] in outline.blocks and outline.blocks[at[:3]].never]
    if found:
        raise Refused(tuple(sorted(found, key=place)))
