"""Readings: what they ask, and what the world answers."""

from planfirst.kinds import given_names
from planfirst.values import Unknown, same


def asked(reading, kind, path, valuing):
    """Return what the expressions of the question come to."""
    question = reading.question
    return {name: valuing.value(question[name], path, {}) for name in given_names(kind) if name in question}


def answer(world, kind, question):
    """Return the attributes of a reading of this kind with this known question."""
    things = world.things()
    ids = [tag for tag in things if things[tag][0] == kind and _keeps(things[tag][1], question)]
    return {"ids": tuple(ids), "size": len(ids)}


def no_answer():
    """Return the attributes of a reading that is not read yet."""
    return {"ids": Unknown(), "size": Unknown()}


def _keeps(attributes, question):
    return all([same(attributes[name], question[name]) is True for name in question])
