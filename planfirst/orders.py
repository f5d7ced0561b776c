"""Orders of the steps of a plan."""

from itertools import combinations

from planfirst.ahead import Ahead, ordered, steps_by, steps_of
from planfirst.graphs import levels, longest_way, reduced, shortest_ring


def steps(plan):
    """Return the sorted tuple of the steps of the plan."""
    return tuple(steps_of(plan.deeds))


def ring(plan):
    """Return a shortest ring of steps that no order can avoid, or None."""
    ahead = Ahead(plan)
    behind = ahead.behind(plan.outline.first)
    if levels(behind) is not None:
        return None
    return steps_by(shortest_ring(behind), ahead)


def rows(plan):
    """Return the fewest pairs of steps from which all that must go ahead follows; Ring if there is a ring."""
    ahead, behind, found = ordered(plan)
    return tuple([steps_by(pair, ahead) for pair in reduced(behind, found)])


def rounds(plan):
    """Return tuples of steps, each behind all that must go ahead of it; Ring if there is a ring."""
    ahead, _, found = ordered(plan)
    return tuple([steps_by(level, ahead) for level in found])


def longest(plan):
    """Return the least of the longest chains of steps; Ring if there is a ring."""
    ahead, behind, found = ordered(plan)
    return steps_by(longest_way(behind, found), ahead)


def is_order(plan, thing):
    """Whether the thing has each step of the plan once, none ahead of what must go ahead of it."""
    if not isinstance(thing, (tuple, list)):
        return False
    ahead = Ahead(plan)
    numbers = ahead.numbers_of(thing)
    if numbers is None or len(numbers) != len(ahead.steps):
        return False
    places = {number: place for place, number in enumerate(numbers)}
    for number, row in enumerate(ahead.behind(plan.outline.first)):
        if not all([places[number] < places[other] for other in row]):
            return False
    return True


def first_marks(plan):
    """Return the fewest blocks that, if they had first too, would leave no ring; None if there are no such blocks."""
    ahead = Ahead(plan)
    blocks = _markable(plan)
    for many in range(len(blocks) + 1):
        for marked in combinations(blocks, many):
            if levels(ahead.behind(plan.outline.first_with(marked))) is not None:
                return marked
    return None


def _markable(plan):
    """Return the sorted blocks that are written and not first, with a replaced or destroyed instance."""
    outline = plan.outline
    torn = [at for at in plan.deeds if len(at) == 4 and plan.deeds[at] in ("replace", "destroy")]
    blocks = {at[:3]: True for at in torn}
    return sorted([block for block in blocks if block in outline.blocks and block not in outline.first])
