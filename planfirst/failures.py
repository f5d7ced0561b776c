"""What failing applies leave behind."""

from planfirst.addresses import place
from planfirst.ahead import ordered, steps_by
from planfirst.applies import apply
from planfirst.equality import equal
from planfirst.errors import BadSteps, Stale
from planfirst.graphs import reaches
from planfirst.plans import next_plan


def left(plan, failed):
    """Return the sorted tuple of the steps that are left if just these steps fail; Ring, BadSteps."""
    ahead, behind, found = ordered(plan)
    numbers = _numbers_of(failed, ahead)
    masks = reaches(behind, found)
    mask = 0
    for number in numbers:
        mask = mask | masks[number]
    if any([mask >> number & 1 for number in numbers]):
        raise BadSteps("a step that must go behind another one of them")
    return steps_by([number for number in range(len(behind)) if mask >> number & 1], ahead)


def stops(plan):
    """Return the number of sets of steps that can have been gone through when an apply stops; Ring."""
    _, behind, found = ordered(plan)
    masks = reaches(behind, found)
    # A step is gone through only behind all that must go ahead of it, so it comes into those sets that have all this.
    sets = [0]
    for level in found:
        for number in level:
            needed = sum([1 << one for one in range(len(behind)) if masks[one] >> number & 1])
            sets = sets + [one | 1 << number for one in sets if one & needed == needed]
    return len(sets)


def lost(plan, state, world, done):
    """Return the instances that the plan replaces and the next plan does not, if just these steps are done.

    Stale, Ring, BadSteps, and what the next plan raises.
    """
    if not equal(state.serial, plan.serial):
        raise Stale(state.serial)
    ahead, behind, found = ordered(plan)
    _refuse_gaps(_numbers_of(done, ahead), behind)
    its_world = world.copy()
    order = [step for level in found for step in steps_by(level, ahead)]
    order = [step for step in order if step in done] + [step for step in order if step not in done]
    outcome = apply(plan, state, its_world, order=order, until=len(done))
    if any([outcome.ends[step] not in ("done", "nothing") for step in done]):
        raise BadSteps("a step that is not done")
    following = next_plan(plan, outcome.state, its_world)
    replaced = [at for at in plan.deeds if plan.deeds[at] == "replace"]
    untouched = [at for at in replaced if ("make", at) not in done and ("destroy", at) not in done]
    return tuple(sorted([at for at in untouched if following.deeds.get(at) != "replace"], key=place))


def _numbers_of(told, ahead):
    numbers = ahead.numbers_of(told) if isinstance(told, tuple) else None
    if numbers is None:
        raise BadSteps("no steps of the plan, each once")
    return numbers


def _refuse_gaps(numbers, behind):
    """Refuse steps among which one is missing that must go ahead of another one."""
    for number, row in enumerate(behind):
        if number not in numbers and any([other in numbers for other in row]):
            raise BadSteps("a step without one that must go ahead of it")
