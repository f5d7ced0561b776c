"""Impacts: what a plan does, for every text of a parameter."""

from planfirst.addresses import instance_of, place
from planfirst.errors import NotGeneric, PlanError
from planfirst.planning import refuse_never
from planfirst.plans import plan, planning_of_all
from planfirst.touched import mark


def impact(config, values, kinds, state, world, param):
    """Return a tuple of rows (texts, deeds) for all texts of the parameter, the last one for all others.

    NotGeneric if no finite number of rows can tell it.
    """
    text = mark()
    others = _deeds_of_all_others(config, {**values, param: text}, kinds, state, world)
    texts_by_deeds = {}
    for met in sorted(text.met):
        deeds = _deeds(config, {**values, param: met}, kinds, state, world)
        if deeds != others:
            texts_by_deeds.setdefault(deeds, []).append(met)
    rows = [(tuple(texts_by_deeds[deeds]), deeds) for deeds in texts_by_deeds]
    rows = sorted(rows, key=lambda row: row[0])
    return tuple(rows + [(None, others)])


def _deeds(config, values, kinds, state, world):
    """Return the deeds of the plan with these values, or the name of the error that it raises."""
    try:
        return _sorted_pairs(plan(config, values, kinds, state, world).deeds)
    except PlanError as error:
        return error.class_name


def _deeds_of_all_others(config, values, kinds, state, world):
    """Return the deeds of the plan with a mark among the values, which comes to meet all texts that matter."""
    try:
        planning = planning_of_all(config, values, kinds, state, world)
        return _sorted_pairs(_gone_through(planning))
    except NotGeneric:
        raise
    except PlanError as error:
        return error.class_name


def _gone_through(planning):
    """Return the deeds behind a planning of everything."""
    try:
        planning.go_through()
        planning.outputs_behind()
    except NotGeneric:
        raise NotGeneric(planning.at) from None
    planning.destroy_the_rest()
    refuse_never(planning.deeds, planning.outline)
    return planning.deeds


def _sorted_pairs(deeds):
    return tuple([(at, deeds[at]) for at in sorted(deeds, key=_place_of_deed)])


def _place_of_deed(at):
    # Old objects of an address stand behind it, by their numbers.
    return (*place(instance_of(at)), at[1] if len(at) == 2 else 0)
