"""Objects of all kinds, to be passed where something else is wanted."""

import itertools

from planfirst.configs import Block, Call, Config, Move, Reading
from planfirst.errors import Gone, PlanError
from planfirst.kinds import Kind
from planfirst.states import Object, State, empty
from planfirst.stores import Store
from planfirst.values import Unknown
from planfirst.worlds import World

TAG = ("#", "net", 1)
NET = Kind("net", (("range", "wanted", True, None),), (("id", ("id",)),))

NAMES = ("a", "net", "abcdefghijkl")
OTHER_TEXTS = ("", "A", "a b", "a1", "net ", "\u00e4", "abcdefghijklm", "a-b", "\n", "nEt")
BOOLS = (True, False)
INTEGERS = (0, 1, -1, 7, 10 ** 20)
NOTHING = ((),)
NAME_TUPLES = (("a",), ("a", "b"), ("a", "b", "c"), ("a", "b", "c", "d", "e"))
OTHER_TUPLES = ((1,), (None,), ([],), ({},), TAG, ((),), (("a",),), ("a", 1), ("a", "A"))
NO_KEYS = ({},)
DICTS = ({"a": 1}, {1: "a"}, {"a": "b"}, {None: None}, {("a",): "a"})
INTERFACE = (
    NET, Block("net", "a", {}), Reading("net", "a", {}), Call("a", Config(), {}), Move(("net", "a"), ("net", "b")),
    Config(), World({}), World({"net": NET}), Object(TAG, {}, False, (), False), State({}, {}, {}, 0), empty(),
    Store(empty()), Unknown(), Gone(TAG), PlanError(),
)
CLASSES = (Kind, Block, World, State, Unknown, PlanError, int, str, tuple, dict, bool, type)
OTHERS = (
    None, 1.0, 0.0, -1.5, float("nan"), 1j, b"", b"a", b"net", bytearray(b"a"), memoryview(b"a"), [], ["a"], ["a", "b"],
    [("a", "b")], [[]], {1}, {"a"}, set(), frozenset(), frozenset(("a", "b")), range(0), range(3), slice(1), object(),
    Ellipsis, NotImplemented, len, print, "a".join, ValueError("a"), iter(()), (one for one in ()), (lambda: 0),
    zip(), itertools, property(),
)
TEXTS = (*NAMES, *OTHER_TEXTS)
ALL = (
    *TEXTS, *BOOLS, *INTEGERS, *NOTHING, *NAME_TUPLES, *OTHER_TUPLES, *NO_KEYS, *DICTS, *INTERFACE, *CLASSES, *OTHERS,
)


def all_but(*groups):
    """All things that are in none of the groups."""
    left_out = [id(one) for group in groups for one in group]
    return [one for one in ALL if id(one) not in left_out]
