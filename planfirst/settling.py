"""Settling: what comes of planning and applying again and again."""

from planfirst.applies import apply
from planfirst.equality import equal
from planfirst.errors import PlanError
from planfirst.pairs import picture
from planfirst.plans import plan


def alike(state, world, other, its_world):
    """Whether two pairs of a state and a world are equal but for the serials and for an exchange of Tags.

    The exchange keeps the kinds of the Tags and the order of their numbers.
    """
    return equal(picture(state, world), picture(other, its_world))


def settles(config, values, kinds, state, world):
    """Return how planning and applying again and again ends.

    ("settled", n), ("ring", n, length), ("refused", n, name) or ("fails", n).
    """
    its_world = world.copy()
    # The pairs behind 0, 1 and more applies.
    pictures = [picture(state, its_world)]
    while True:
        applied = len(pictures) - 1
        try:
            found = plan(config, values, kinds, state, its_world)
            if not found.deeds:
                return ("settled", applied)
            outcome = apply(found, state, its_world)
        except PlanError as error:
            return ("refused", applied, error.class_name)
        if "failed" in list(outcome.ends.values()):
            return ("fails", applied + 1)
        state = outcome.state
        reached = picture(state, its_world)
        for number, earlier in enumerate(pictures):
            if equal(earlier, reached):
                return ("ring", number, len(pictures) - number)
        pictures.append(reached)
