"""Stages: applies by which a configuration with counts that are not known yet can stand."""

from planfirst.addresses import instance_of
from planfirst.applies import apply
from planfirst.equality import equal
from planfirst.errors import Unsure
from planfirst.pairs import picture
from planfirst.plans import plan, planning_of_all


def stages(config, values, kinds, state, world):
    """Return the targets of applies, one behind the other, the last one None for everything.

    Unsure if they lead nowhere, and what a plan raises otherwise.
    """
    its_world = world.copy()
    found = []
    pictures = []
    while True:
        try:
            plan(config, values, kinds, state, its_world)
            return (*found, None)
        except Unsure as error:
            unsure = error.address
        reached = picture(state, its_world)
        targets = _next_stage(config, values, kinds, state, its_world)
        if not targets or any([equal(earlier, reached) for earlier in pictures]):
            raise Unsure(unsure)
        pictures.append(reached)
        found.append(targets)
        state = apply(plan(config, values, kinds, state, its_world, targets=targets), state, its_world).state


def _next_stage(config, values, kinds, state, world):
    """Return the sorted blocks that are sure now and have a deed."""
    sure = planning_of_all(config, values, kinds, state, world).sure_blocks()
    found = plan(config, values, kinds, state, world, targets=tuple(sure))
    # The blocks of instances, and of deposed objects.
    busy = {instance_of(at)[:3]: True for at in found.deeds}
    return tuple([at for at in sure if at in busy])
