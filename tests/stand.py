"""Short ways to kinds, configurations, and what stands behind them."""

import copy
import unittest

from planfirst.applies import apply
from planfirst.configs import Block, Config
from planfirst.errors import PlanError
from planfirst.kinds import Kind
from planfirst.plans import plan
from planfirst.states import Object, State, empty
from planfirst.values import Unknown
from planfirst.worlds import World

ID = ("id", ("id",))
ANY = Unknown()


def say(value):
    return ("say", value)


def param(name):
    return ("param", name)


def of(name, attribute, kind="net"):
    return ("of", kind, name, attribute)


def at(name, key=None, kind="net", path=()):
    """The address of an instance."""
    return (path, kind, name, key)


def block_at(name, kind="net", path=()):
    """The address of a block or a reading."""
    return (path, kind, name)


# A forcing attribute, one that may change, one that is chosen by the world, one that is made of "a".
NET = Kind(
    "net", (("f", "open", True, None), ("a", "open", False, None), ("c", "filled", False, None)),
    (ID, ("mark", ("mark",)), ("round", ("around", "a", "<", ">"))),
)
# Both attributes must be given, the second one forces.
MUST = Kind("must", (("one", "wanted", False, None), ("two", "wanted", True, None)), (ID,))
# Its objects are single by "name", and hold what "of" tells.
HOLD = Kind(
    "hold", (("name", "open", False, None), ("of", "open", False, None)), (ID,), single="name", holds=("of",),
)
# What the world tells of "x" and "c" is otherwise than what it keeps.
READ = Kind(
    "read", (("x", "open", False, {"A": "a"}), ("y", "open", False, None), ("c", "filled", False, {"filled": "own"})),
    (ID, ("mark", ("mark",))),
)
KINDS = {"net": NET, "must": MUST, "hold": HOLD, "read": READ}


def net(name, f=None, a=None, **more):
    """A block of the kind net; f and a are expressions."""
    told = {"f": f, "a": a}
    return Block("net", name, {key: told[key] for key in told if told[key] is not None}, **more)


def hold(name, text=None, held=None, **more):
    told = {"name": text, "of": held}
    return Block("hold", name, {key: told[key] for key in told if told[key] is not None}, **more)


def blocks(*told, **more):
    return Config(blocks=told, **more)


class Stand:
    """A state and a world, and plans and applies on them."""

    def __init__(self, *configs, kinds=KINDS, values=None):
        self.kinds = kinds
        self.values = values or {}
        self.state = empty()
        self.world = World(kinds)
        for config in configs:
            self.apply(config)

    def plan(self, config, **more):
        return plan(config, self.values, self.kinds, self.state, self.world, **more)

    def apply(self, config, values=None, **more):
        """Plan and apply; the ends of the steps."""
        if values is not None:
            self.values = values
        return self.do(self.plan(config, **more))

    def do(self, found, **more):
        outcome = apply(found, self.state, self.world, **more)
        self.state = outcome.state
        return outcome.ends

    def copy(self):
        other = Stand(kinds=self.kinds, values=self.values)
        other.state = self.state
        other.world = self.world.copy()
        return other

    def tag(self, *address):
        return self.state.objects[address if len(address) == 4 else at(*address)].tag

    def put(self, address, **more):
        """Put another object for the one at an address, that is otherwise by what is told."""
        old = self.state.objects[address]
        told = {"tag": old.tag, "attributes": old.attributes, "tainted": old.tainted, "needs": old.needs,
                "first": old.first, **more}
        objects = {**self.state.objects, address: Object(**told)}
        self.state = State(objects, self.state.deposed, self.state.outputs, self.state.serial)

    def depose(self, address, number, new=None):
        """Depose the object at an address by hand."""
        objects = dict(self.state.objects)
        old = objects.pop(address)
        if new is not None:
            old = new
        self.state = State(objects, {**self.state.deposed, (address, number): old}, self.state.outputs,
                           self.state.serial)


class Case(unittest.TestCase):
    maxDiff = None

    def raises(self, error, deed, *passed, **named):
        """Whether the deed raises an error that equals this one, and changes nothing that it is passed."""
        before = copy.deepcopy((passed, named))
        with self.assertRaises(PlanError) as caught:
            deed(*passed, **named)
        self.assertIs(type(caught.exception), type(error))
        self.assertEqual(caught.exception, error)
        for one, other in zip(passed, before[0]):
            if not isinstance(one, World):
                self.assertEqual(one, other)
            else:
                self.assertEqual(one.things(), other.things())
