"""Applies: the steps of a plan, done one behind the other."""

from planfirst.ahead import ordered, steps_by
from planfirst.applying import Applying
from planfirst.equality import Valued, equal
from planfirst.errors import BadOrder, Stale
from planfirst.orders import is_order
from planfirst.states import State


class Outcome(Valued):
    """The state behind an apply, and how each step ended."""

    def __init__(self, state, ends):
        self.state = state
        self.ends = {step: ends[step] for step in ends}

    def parts(self):
        return (self.state, self.ends)


def apply(plan, state, world, *, order=None, fails=None, until=None):
    """Do the steps of the plan and return the Outcome; Stale, Ring or BadOrder ahead of any step."""
    if not equal(state.serial, plan.serial):
        raise Stale(state.serial)
    ahead, behind, found = ordered(plan)
    if order is None:
        order = [step for level in found for step in steps_by(level, ahead)]
    elif not is_order(plan, order):
        raise BadOrder("not each step once and behind all that must go ahead of it")
    gone = order if until is None else order[:max(until, 0)]
    applying = Applying(plan, world, {} if fails is None else fails)
    ends = {step: "open" for step in ahead.steps}
    before = _before(ahead, behind)
    for step in gone:
        is_left = any([ends[one] in ("failed", "left") for one in before[step]])
        ends[step] = "left" if is_left else applying.do(step)
    return Outcome(_numbered(applying.reached(ends, state.serial), state), ends)


def _numbered(reached, state):
    """Return the state that was reached, with the next serial if it is otherwise than the one handed in."""
    if equal(reached, state):
        return reached
    return State(reached.objects, reached.deposed, reached.outputs, state.serial + 1)


def _before(ahead, behind):
    """Return for each step those that must go ahead of it by a rule itself."""
    found = {step: [] for step in ahead.steps}
    for step, row in zip(ahead.steps, behind):
        for number in row:
            found[ahead.steps[number]].append(step)
    return found
