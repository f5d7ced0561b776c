"""How often blocks stand: the keys of their instances, with the words that each instance has of its own."""

from planfirst.errors import BadMany, NotGeneric, Unsure
from planfirst.touched import Touched
from planfirst.values import Unknown, are_unlike, is_integer, is_tuple

MOST_INSTANCES = 20


def owns(block, address, path, valuing):
    """Return a dict from the keys of a block's instances, in their order, to their own words and these words' values.

    Unsure if it is not known yet, BadMany if it is no count or no keys.
    """
    if block.many is None:
        return {None: {}}
    word, expression = block.many
    value = valuing.value(expression, path, {})
    if isinstance(value, Unknown):
        raise Unsure(address)
    if word == "count":
        return _owns_by_count(address, value)
    if is_tuple(value):
        return _owns_by_texts(address, value)
    if not isinstance(value, dict) or len(value) > MOST_INSTANCES:
        raise BadMany(address)
    return {key: {"key": key, "value": value[key]} for key in sorted(value)}


def _owns_by_count(address, value):
    if isinstance(value, Touched):
        raise NotGeneric(None)
    if not is_integer(value) or not 0 <= value <= MOST_INSTANCES:
        raise BadMany(address)
    return {index: {"index": index} for index in range(value)}


def _owns_by_texts(address, texts):
    if any([isinstance(text, Touched) for text in texts]):
        raise NotGeneric(None)
    if any([isinstance(text, Unknown) for text in texts]):
        raise Unsure(address)
    if len(texts) > MOST_INSTANCES or not all([isinstance(text, str) for text in texts]) or not are_unlike(texts):
        raise BadMany(address)
    return {text: {"key": text, "value": text} for text in sorted(texts)}
