"""Configurations: what shall stand, in blocks, and what belongs to it."""

from planfirst.equality import Valued
from planfirst.errors import NoConfig
from planfirst.forms import are_after, are_expressions, are_names, are_replacing, is_expression, is_many, is_place
from planfirst.values import are_unlike, is_integer, is_name, is_value


class Block(Valued):
    """Objects of a kind that shall stand: one, or one for each index or key."""

    def __init__(self, kind, name, attributes, *, many=None, after=(), first=False, never=False, ignored=(),
                 replaced_by=(), ahead=None):
        self.kind = kind
        self.name = name
        self.attributes = attributes
        self.many = many
        self.after = after
        self.first = first
        self.never = never
        self.ignored = ignored
        self.replaced_by = replaced_by
        self.ahead = ahead

    def parts(self):
        return (
            self.kind, self.name, self.attributes, self.many, self.after, self.first, self.never, self.ignored,
            self.replaced_by, self.ahead,
        )


class Reading(Valued):
    """A question to the world: which objects of a kind keep these values."""

    def __init__(self, kind, name, question, *, after=()):
        self.kind = kind
        self.name = name
        self.question = question
        self.after = after

    def parts(self):
        return (self.kind, self.name, self.question, self.after)


class Call(Valued):
    """A configuration inside another one, with arguments for its parameters."""

    def __init__(self, name, config, arguments, *, after=()):
        self.name = name
        self.config = config
        self.arguments = arguments
        self.after = after

    def parts(self):
        return (self.name, self.config, self.arguments, self.after)


class Move(Valued):
    """Tells that what stood at the old address shall stand at the new one."""

    def __init__(self, old, new):
        self.old = old
        self.new = new

    def parts(self):
        return (self.old, self.new)


class Config(Valued):
    """A configuration."""

    def __init__(self, *, params=(), blocks=(), readings=(), calls=(), outputs=(), moves=()):
        at = _wrong_part(params, blocks, readings, calls, outputs, moves)
        if at is not None:
            raise NoConfig(at)
        self.params = params
        self.blocks = blocks
        self.readings = readings
        self.calls = calls
        self.outputs = outputs
        self.moves = moves

    def parts(self):
        return (self.params, self.blocks, self.readings, self.calls, self.outputs, self.moves)


def _wrong_part(params, blocks, readings, calls, outputs, moves):
    if not _are_params(params):
        return "params"
    if not _are_blocks(blocks):
        return "blocks"
    if not _are_readings(readings, blocks):
        return "readings"
    if not _are_calls(calls):
        return "calls"
    if not _are_outputs(outputs):
        return "outputs"
    if not _are_moves(moves, blocks):
        return "moves"
    return None


def _are_params(params):
    if not isinstance(params, tuple) or not all([is_name(one) or _is_param(one) for one in params]):
        return False
    return are_unlike([one if isinstance(one, str) else one[0] for one in params])


def _is_param(thing):
    return isinstance(thing, tuple) and len(thing) == 2 and is_name(thing[0]) and is_value(thing[1])


def _are_blocks(blocks):
    if not isinstance(blocks, tuple) or not all([isinstance(one, Block) and _is_block(one) for one in blocks]):
        return False
    return are_unlike([(block.kind, block.name) for block in blocks])


def _is_block(block):
    if not is_name(block.kind) or not is_name(block.name) or not are_expressions(block.attributes):
        return False
    if not isinstance(block.first, bool) or not isinstance(block.never, bool):
        return False
    if not is_many(block.many) or block.ahead is not None and not is_expression(block.ahead):
        return False
    return are_after(block.after) and are_names(block.ignored) and are_replacing(block.replaced_by)


def _are_readings(readings, blocks):
    if not isinstance(readings, tuple) or not all([isinstance(one, Reading) and _is_reading(one) for one in readings]):
        return False
    return are_unlike([(one.kind, one.name) for one in (*blocks, *readings)])


def _is_reading(reading):
    if not is_name(reading.kind) or not is_name(reading.name):
        return False
    return are_expressions(reading.question) and are_after(reading.after)


def _are_calls(calls):
    if not isinstance(calls, tuple) or not all([isinstance(one, Call) and _is_call(one) for one in calls]):
        return False
    return are_unlike([call.name for call in calls])


def _is_call(call):
    if not is_name(call.name) or not isinstance(call.config, Config):
        return False
    return are_expressions(call.arguments) and are_after(call.after)


def _are_outputs(outputs):
    if not isinstance(outputs, tuple) or not all([_is_output(one) for one in outputs]):
        return False
    return are_unlike([output[0] for output in outputs])


def _is_output(thing):
    return isinstance(thing, tuple) and len(thing) == 2 and is_name(thing[0]) and is_expression(thing[1])


def _are_moves(moves, blocks):
    if not isinstance(moves, tuple) or not all([isinstance(one, Move) and _is_move(one) for one in moves]):
        return False
    olds = [move.old for move in moves]
    news = [move.new for move in moves]
    if not are_unlike(olds) or not are_unlike(news) or _are_mixed(olds + news) or _are_ringed(moves):
        return False
    return not any([_is_written(old, block) for old in olds for block in blocks])


def _is_move(move):
    if not is_place(move.old) or not is_place(move.new) or len(move.old) != len(move.new):
        return False
    return move.old[0] == move.new[0] and move.old != move.new


def _are_mixed(places):
    """Whether an instance and the block of which it is one are among the places."""
    return any([len(one) == 3 and one[:2] in places for one in places])


def _are_ringed(moves):
    goals = {move.old: move.new for move in moves}
    for old in goals:
        # No new address comes twice, so a way can lead into a ring only where it began.
        new = goals[old]
        while new in goals and new != old:
            new = goals[new]
        if new == old:
            return True
    return False


def _is_written(old, block):
    """Whether the old address is this block, or an instance with such a key as this block has."""
    if old[:2] != (block.kind, block.name):
        return False
    if len(old) == 2:
        return True
    if block.many is None:
        return old[2] is None
    if block.many[0] == "count":
        return is_integer(old[2])
    return isinstance(old[2], str)
