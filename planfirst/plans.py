"""Plans: what must be done so that a configuration stands."""

from planfirst.addresses import instance_of
from planfirst.equality import Valued, equal
from planfirst.errors import NoValue
from planfirst.moves import moved
from planfirst.outlines import Outline
from planfirst.planning import Planning, refuse_never
from planfirst.refreshing import refreshed
from planfirst.taking import targeted, targeted_with_needs
from planfirst.values import fresh


class Plan(Valued):
    """What must be done, and what will stand behind it."""

    def __init__(self, config, kinds, passed, targets, clears, serial, deeds, reasons, planned, outputs, notes, drift,
                 base, outline):
        self.config = config
        self.kinds = {name: kinds[name] for name in kinds}
        self.passed = fresh(passed)
        self.targets = targets
        # Whether everything is destroyed.
        self.clears = clears
        self.serial = serial
        self.deeds = deeds
        self.reasons = reasons
        self.planned = fresh(planned)
        self.outputs = fresh(outputs)
        self.notes = notes
        self.drift = drift
        self.base = base
        # What follows from the configuration and the kinds alone.
        self.outline = outline

    def parts(self):
        return (
            self.config, self.kinds, self.passed, self.targets, self.clears, self.serial, self.deeds, self.reasons,
            self.planned, self.outputs, self.notes, self.drift, self.base,
        )


def plan(config, values, kinds, state, world, *, replace=(), targets=None, destroy=False):
    """Return the Plan by which the configuration comes to stand, or by which all is destroyed."""
    outline = _checked(config, values, kinds)
    base, notes = moved(state, config)
    base, drift = refreshed(base, world)
    outputs = base.outputs
    if destroy:
        deeds, reasons, planned = _clearing(targets, base), {}, {}
        if targets is None:
            outputs = {}
    else:
        taking = targeted_with_needs(targets, outline)
        planning = Planning(outline, values, kinds, base, world, replace, taking)
        planning.go_through()
        if targets is None:
            outputs = planning.outputs_behind()
        planning.destroy_the_rest()
        deeds, reasons, planned = planning.deeds, planning.reasons, planning.planned
    refuse_never(deeds, outline)
    return Plan(config, kinds, values, targets, destroy, state.serial, deeds, reasons, planned, outputs, notes, drift,
                base, outline)


def planning_of_all(config, values, kinds, state, world):
    """Return the planning of everything, before anything is gone through."""
    outline = _checked(config, values, kinds)
    base = refreshed(moved(state, config)[0], world)[0]
    return Planning(outline, values, kinds, base, world, (), targeted(None))


def next_plan(old, state, world):
    """Return the Plan of the same configuration, values and kinds, without anything else that was asked for."""
    return plan(old.config, old.passed, old.kinds, state, world)


def is_empty(plan):
    """Whether the plan has nothing to do."""
    if plan.deeds or any([note[2] for note in plan.notes]):
        return False
    return equal(plan.outputs, plan.base.outputs)


def _checked(config, values, kinds):
    """Return the outline of the configuration; BadConfig or NoValue if it can't be planned with these values."""
    outline = Outline(config, kinds)
    scope = outline.scopes[()]
    for name in scope.params:
        if name not in values and name not in scope.defaults:
            raise NoValue(name)
    others = [name for name in values if name not in scope.params]
    if others:
        texts = [name for name in others if isinstance(name, str)]
        raise NoValue(min(texts) if texts else others[0])
    return outline


def _clearing(targets, base):
    """Return the deeds that destroy everything, or the targets and, again and again, what needed their blocks."""
    taking = targeted(targets)
    needs_of = {at: base.objects[at].needs for at in base.objects}
    for at in base.deposed:
        needs_of[at] = base.deposed[at].needs
    deeds = {}
    # The blocks of what is destroyed.
    ruined = {}
    gone = [at for at in needs_of if taking.takes_instance(instance_of(at))]
    while gone:
        for at in gone:
            deeds[at] = "destroy"
            ruined[instance_of(at)[:3]] = True
        gone = [at for at in needs_of if at not in deeds and any([block in ruined for block in needs_of[at]])]
    return deeds
