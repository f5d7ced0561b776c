"""Points 2.2 and 2.3: blocks, readings, calls, moves, configurations."""

import copy
import itertools
import unittest

import odd
from planfirst.configs import Block, Call, Config, Move, Reading
from planfirst.errors import NoConfig
from planfirst.values import Unknown

ONE = ("say", 1)
E = ("param", "p")
TAG = ("#", "net", 1)

# Each class with the values of its parameters, those behind the star by name.
PLAIN = {
    Block: (
        {"kind": "net", "name": "main", "attributes": {"range": ONE, "title": E}},
        {"many": None, "after": (), "first": False, "never": False, "ignored": (), "replaced_by": (), "ahead": None},
    ),
    Reading: ({"kind": "net", "name": "main", "question": {"range": ONE, "title": E}}, {"after": ()}),
    Call: ({"name": "sub", "config": Config(), "arguments": {"p": ONE, "q": E}}, {"after": ()}),
    Move: ({"old": ("net", "main"), "new": ("net", "core")}, {}),
}


def made(one, **others):
    plain, named = PLAIN[one]
    told = {**plain, **named, **others}
    return one(*[told[name] for name in plain], **{name: told[name] for name in named})


class Parts(unittest.TestCase):
    def test_each_parameter_is_a_value_whatever_it_is(self):
        for one, (plain, named) in PLAIN.items():
            for name in (*plain, *named):
                for thing in odd.ALL:
                    self.assertIs(getattr(made(one, **{name: thing}), name), thing)

    def test_all_at_once(self):
        for one, (plain, named) in PLAIN.items():
            names = [*plain, *named]
            for shift in range(0, len(odd.ALL), 7):
                told = {name: odd.ALL[(shift + at) % len(odd.ALL)] for at, name in enumerate(names)}
                thing = made(one, **told)
                for name in names:
                    self.assertIs(getattr(thing, name), told[name])

    def test_what_need_not_be_passed(self):
        for one, (plain, named) in PLAIN.items():
            thing = one(*plain.values())
            for name, value in (*plain.items(), *named.items()):
                self.assertEqual(repr(getattr(thing, name)), repr(value))

    def test_by_name_behind_the_star(self):
        for one, (plain, named) in PLAIN.items():
            self.assertRaises(TypeError, one, *plain.values(), ())
            self.assertRaises(TypeError, one, *list(plain.values())[1:])
            self.assertEqual(one(**plain, **named), one(*plain.values()))


class Equality(unittest.TestCase):
    VALUES = (
        None, True, False, 0, 1, "", "a", (), (1,), (True,), [], [1], [True], ((),), ([],), {}, {"a": 1}, {"a": True},
        {"b": 1}, {"a": 1, "b": 2}, {"a": (1,)}, {"a": [1]}, {1: "a"}, {True: "a"}, {(1,): "a"}, {(True,): "a"},
        TAG, ("#", "net", True), Config(), Config(params=("p",)), Block("net", "a", {}), Block("net", "a", {"a": 1}),
        Block("net", "a", {"a": True}), Reading("net", "a", {}), Unknown(), (Unknown(),), Config, 1.5,
    )

    def test_part_by_part(self):
        for one, (plain, named) in PLAIN.items():
            for name in (*plain, *named):
                for left, right in itertools.product(range(len(self.VALUES)), repeat=2):
                    first = made(one, **{name: self.VALUES[left]})
                    second = made(one, **{name: copy.deepcopy(self.VALUES[right])})
                    self.assertIs(first == second, left == right, (one, name, left, right))
                    self.assertIs(first != second, left != right, (one, name, left, right))

    def test_dicts_in_any_order(self):
        for name, one in (("attributes", Block), ("question", Reading), ("arguments", Call)):
            first = made(one, **{name: {"a": {"x": 1, "y": 2}, "b": 1}})
            second = made(one, **{name: {"b": 1, "a": {"y": 2, "x": 1}}})
            self.assertEqual(first, second)
            self.assertNotEqual(first, made(one, **{name: {"b": 1, "a": {"y": 2, "x": True}}}))

    def test_of_other_classes(self):
        self.assertNotEqual(Block("net", "a", {}), Reading("net", "a", {}))
        for one in (*[made(one) for one in PLAIN], Config(params=("p",))):
            for thing in odd.ALL:
                self.assertIs(one == thing, False)
                self.assertIs(thing == one, False)

    def test_configurations(self):
        one = {
            "params": ("p", ("q", {"a": 1, "b": 2})), "blocks": (Block("net", "a", {"x": ONE}),),
            "readings": (Reading("net", "b", {}),), "calls": (Call("c", Config(), {}),), "outputs": (("o", ONE),),
            "moves": (Move(("net", "x"), ("net", "y")),),
        }
        other = {
            "params": ("p", ("q", {"a": 1, "b": True})), "blocks": (Block("net", "a", {"x": ("say", True)}),),
            "readings": (Reading("net", "b", {}, after=("c",)),), "calls": (Call("c", Config(params=("p",)), {}),),
            "outputs": (("o", ("say", True)),), "moves": (Move(("net", "x"), ("net", "z")),),
        }
        self.assertEqual(Config(**one), Config(**copy.deepcopy(one)))
        self.assertEqual(Config(**one), Config(**{**one, "params": ("p", ("q", {"b": 2, "a": 1}))}))
        for name in one:
            for part in (other[name], ()):
                self.assertNotEqual(Config(**one), Config(**{**one, name: part}))
                self.assertTrue(Config(**one) != Config(**{**one, name: part}))

    def test_deep_ones(self):
        def nested(leaf):
            expression = ("say", leaf)
            for _ in range(200):
                expression = ("map", (("a", expression),))
            return expression

        for one in (1, True):
            for other in (1, True):
                left, right = ([Config(blocks=(Block("net", "a", {"x": nested(leaf)}),)) for leaf in (one, other)])
                self.assertIs(left == right, one is other)
        inner, outer = Config(), Config()
        for _ in range(6):
            inner, outer = (Config(calls=(Call("c", config, {}),)) for config in (inner, outer))
        self.assertEqual(inner, outer)


class Case(unittest.TestCase):
    def refused(self, at, **parts):
        with self.subTest(at, **parts):
            with self.assertRaises(NoConfig) as caught:
                Config(**parts)
            self.assertEqual(caught.exception.at, at)

    def taken(self, **parts):
        with self.subTest(**parts):
            config = Config(**parts)
            for name in ("params", "blocks", "readings", "calls", "outputs", "moves"):
                self.assertIs(getattr(config, name), parts.get(name, ()))

    def no_tuple(self, at, *right):
        """Whether all is refused that is no tuple of the things wanted; right are groups of what is one."""
        for thing in odd.all_but(odd.NOTHING, *right):
            self.refused(at, **{at: thing})
        for thing in odd.ALL:
            self.refused(at, **{at: (thing, 1)})


class Params(Case):
    def test_what_is_right(self):
        for params in (
            (), ("p",), ("p", "q"), (("p", None), "q"), (("p", 1),), (("p", {"a": (1, {"b": TAG})}), ("q", ())),
            (("p", ""),), (("p", ("#", "net", 0)),),
        ):
            self.taken(params=params)

    def test_what_is_wrong(self):
        self.no_tuple("params", odd.NAME_TUPLES)
        for thing in odd.all_but(odd.NAMES):
            self.refused("params", params=("p", (thing, 1)))
            if not (isinstance(thing, tuple) and len(thing) == 2 and thing[0] == "a"):
                self.refused("params", params=("p", thing))
        for thing in (["q", 1], ("q",), ("q", 1, 2), ("q", Unknown()), ("q", (1, Unknown())), ("q", {"a": Unknown()}),
                      ("q", {1: 2}), ("q", {"a": {None: 2}}), ("q", ([],))):
            self.refused("params", params=("p", thing))
        for thing in (*odd.INTERFACE, *odd.CLASSES, *[one for one in odd.OTHERS if one is not None]):
            self.refused("params", params=(("q", thing),))

    def test_a_name_twice(self):
        for params in (("p", "p"), ("p", ("p", 1)), (("p", 1), "p"), (("p", 1), ("p", 2)), ("p", "q", "p")):
            self.refused("params", params=params)


# Expressions of all forms, and what has not the form of one.
EXPRESSIONS = (
    ("say", None), ("say", True), ("say", 10 ** 20), ("say", ""), ("say", TAG), ("say", ()), ("say", (1, {"": ()})),
    ("say", {}), ("say", {"A b": {"": 1}}), ("param", "p"), ("own", "key"), ("own", "value"), ("own", "index"),
    ("out", "c", "o"), ("of", "net", "main", "id"), ("at", "net", "main", ONE, "id"), ("each", "net", "main", "id"),
    ("tuple", ()), ("tuple", (ONE, E)), ("map", ()), ("map", (("A", ONE), ("", E), ("b", ("map", ())))), ("join", ()),
    ("join", (ONE, E)), ("if", E, ONE, ("tuple", ())), ("same", E, ONE), ("size", E), ("pick", E, ONE),
    ("at", "net", "main", ("at", "net", "main", E, "id"), "id"), ("size", ONE), ("pick", ("say", ()), ("say", None)),
    ("if", ONE, ONE, ONE),
)
NO_EXPRESSIONS = (
    *odd.ALL, ("say",), ("say", 1, 2), ["say", 1], ("say", Unknown()), ("say", (Unknown(),)), ("say", {"a": Unknown()}),
    ("say", {1: 2}), ("say", [1]), ("say", 1.0), ("say", b"a"), ("say", Config()), ("say", object()), ("Say", 1),
    ("none", 1), ("call", "c"), ("block", "net", "main"), ("param",), ("param", "p", "q"), ("param", 1),
    ("param", None), ("param", ["p"]), ("param", ""), ("param", "P"), ("own", "p"), ("own", ""), ("own", None),
    ("own", ["key"]), ("own",), ("own", "key", "value"), ("out", "c"), ("out", "c", 1), ("out", 1, "o"),
    ("out", "C", "o"), ("out", "c", ""), ("out", "c", "o", "p"), ("of", "net", "main"), ("of", "net", "main", 1),
    ("of", "net", 1, "id"), ("of", 1, "main", "id"), ("of", "net", "main", "id", "id"), ("of", "Net", "main", "id"),
    ("of", "net", "", "id"), ("of", "net", "main", "a b"), ("at", "net", "main", "id"), ("at", "net", "main", 0, "id"),
    ("at", "net", "main", ONE, 1), ("at", 1, "main", ONE, "id"), ("at", "net", 1, ONE, "id"),
    ("at", "net", "main", "id", ONE), ("at", "net", "main", ONE, "ID"), ("each", "net", "main"),
    ("each", "net", "main", None), ("each", "net", "main", ONE, "id"), ("tuple",), ("tuple", ONE), ("tuple", ONE, ONE),
    ("tuple", [ONE]), ("tuple", (1,)), ("tuple", (ONE, "p")), ("tuple", ((ONE,),)), ("tuple", None),
    ("map", {"a": ONE}), ("map", (ONE,)), ("map", [("a", ONE)]), ("map", (["a", ONE],)), ("map", (("a",),)),
    ("map", (("a", ONE, ONE),)), ("map", ((1, ONE),)), ("map", (("a", 1),)), ("map", (("a", ONE), ("a", E))),
    ("map", (("a", ONE), ("b", ONE), ("a", ONE))), ("map",), ("join", ONE), ("join", [ONE]), ("join", ("a",)),
    ("join",), ("if", ONE, ONE), ("if", ONE, ONE, ONE, ONE), ("if", True, ONE, ONE), ("if", ONE, 1, ONE),
    ("if", ONE, ONE, None), ("same", ONE), ("same", ONE, 1), ("same", 1, ONE), ("same", ONE, ONE, ONE), ("size",),
    ("size", "p"), ("size", ONE, ONE), ("pick", ONE), ("pick", ONE, 0), ("pick", "p", ONE), ("pick", ONE, ONE, ONE),
)


def deep(leaf, wrap, depth):
    for _ in range(depth):
        leaf = wrap(leaf)
    return leaf


WRAPS = (
    lambda e: ("size", e), lambda e: ("tuple", (ONE, e)), lambda e: ("map", (("b", ONE), ("a", e))),
    lambda e: ("join", (e,)), lambda e: ("if", ONE, ONE, e), lambda e: ("if", e, ONE, ONE),
    lambda e: ("if", ONE, e, ONE), lambda e: ("same", ONE, e), lambda e: ("same", e, ONE), lambda e: ("pick", e, ONE),
    lambda e: ("pick", ONE, e), lambda e: ("at", "net", "main", e, "id"),
)


class Expressions(Case):
    def places(self, expression):
        """The places of a configuration in which an expression may stand."""
        yield "blocks", {"blocks": (Block("net", "main", {"a": ONE, "b": expression}),)}
        yield "blocks", {"blocks": (Block("net", "main", {}, many=("count", expression)),)}
        yield "blocks", {"blocks": (Block("net", "main", {}, many=("keys", expression)),)}
        if expression is not None:
            yield "blocks", {"blocks": (Block("net", "main", {}, ahead=expression),)}
        yield "readings", {"readings": (Reading("net", "main", {"a": ONE, "b": expression}),)}
        yield "calls", {"calls": (Call("sub", Config(), {"a": ONE, "b": expression}),)}
        yield "outputs", {"outputs": (("a", ONE), ("b", expression))}

    def test_at_all_places(self):
        for expression in EXPRESSIONS:
            for _, parts in self.places(expression):
                self.taken(**parts)

    def test_what_is_none(self):
        for thing in NO_EXPRESSIONS:
            for at, parts in self.places(thing):
                self.refused(at, **parts)

    def test_what_is_none_inside_others(self):
        for thing in NO_EXPRESSIONS:
            for wrap in WRAPS:
                self.refused("outputs", outputs=(("o", wrap(thing)),))

    def test_deep_ones(self):
        for wrap in WRAPS:
            Config(outputs=(("o", deep(ONE, wrap, 250)),))
            with self.assertRaises(NoConfig) as caught:
                Config(blocks=(Block("net", "main", {"a": deep(("size",), wrap, 250)}),))
            self.assertEqual(caught.exception.at, "blocks")


def can_be_key(thing):
    try:
        hash(thing)
    except TypeError:
        return False
    return True


class Blocks(Case):
    def block(self, **others):
        return {"blocks": (Block("net", "one", {}), made(Block, **others))}

    def test_what_is_right(self):
        for name, values in (
            ("kind", ("a", "abcdefghijkl")), ("name", ("a", "abcdefghijkl")), ("attributes", ({}, {"a": ONE})),
            ("many", (None, ("count", ONE), ("keys", E))), ("first", (True, False)), ("never", (True, False)),
            ("after", ((), ("c",), (("net", "one"),), ("c", ("net", "one"), "d", "c"))),
            ("ignored", ((), ("a",), ("a", "b", "a"))), ("ahead", (None, ("say", True), E)),
            ("replaced_by", ((), (("net", "one"),), (("net", "one", "id"), ("net", "one")))),
        ):
            for value in values:
                self.taken(**self.block(**{name: value}))

    def test_no_blocks(self):
        self.no_tuple("blocks")
        self.refused("blocks", blocks=[Block("net", "one", {})])
        self.refused("blocks", blocks=Block("net", "one", {}))
        for thing in [one for one in odd.ALL if not isinstance(one, Block)]:
            self.refused("blocks", blocks=(Block("net", "one", {}), thing))

    def test_each_parameter_wrong(self):
        for name, right in (
            ("kind", (odd.NAMES,)), ("name", (odd.NAMES,)), ("attributes", (odd.NO_KEYS,)), ("many", ((None,),)),
            ("after", (odd.NOTHING, odd.NAME_TUPLES)), ("first", (odd.BOOLS,)), ("never", (odd.BOOLS,)),
            ("ignored", (odd.NOTHING, odd.NAME_TUPLES)), ("replaced_by", (odd.NOTHING,)), ("ahead", ((None,),)),
        ):
            for thing in odd.all_but(*right):
                self.refused("blocks", **self.block(**{name: thing}))

    def test_attributes_have_names(self):
        for thing in [one for one in odd.all_but(odd.NAMES) if can_be_key(one)]:
            self.refused("blocks", **self.block(attributes={"a": ONE, thing: ONE}))

    def test_many_of_other_forms(self):
        for many in (
            ("count",), ("count", ONE, ONE), ["count", ONE], ("Count", ONE), (None, ONE), (ONE, "count"), ("keys",),
            ("each", ONE), ("count", 3), ("keys", ("a", "b")), ("keys", None), ONE, "count", ("", ONE),
        ):
            self.refused("blocks", **self.block(many=many))

    def test_after_of_other_forms(self):
        pairs = [one for one in odd.NAME_TUPLES if len(one) == 2]
        for thing in (*odd.all_but(odd.NAMES, pairs), ("net",), ("net", "one", "id"), ["net", "one"], ("net", "One"),
                      ("Net", "one"), ("net", 1), (1, "one")):
            for one in (Block, Reading, Call):
                at = {Block: "blocks", Reading: "readings", Call: "calls"}[one]
                self.refused(at, **{at: (made(one, after=("c", thing)),)})

    def test_ignored_of_other_forms(self):
        for thing in odd.all_but(odd.NAMES):
            self.refused("blocks", **self.block(ignored=("a", thing)))

    def test_replaced_by_of_other_forms(self):
        right = [one for one in odd.NAME_TUPLES if len(one) in (2, 3)]
        for thing in (*odd.all_but(right), ("net",), ("net", "one", "id", "id"), ["net", "one"], ("net", "One"),
                      ("net", "one", "Id"), ("net", "one", None), ("net", 1), (1, "one"), "c", ("net", "one", 0)):
            self.refused("blocks", **self.block(replaced_by=(("net", "one"), thing)))

    def test_a_block_twice(self):
        self.refused("blocks", blocks=(Block("net", "one", {}), Block("net", "one", {"a": ONE})))
        self.refused("blocks", blocks=(Block("net", "one", {}), Block("net", "two", {}), Block("net", "one", {})))
        names = (("net", "one"), ("web", "one"), ("net", "web"), ("web", "net"))
        self.taken(blocks=tuple(Block(kind, name, {}) for kind, name in names))


class Readings(Case):
    def test_what_is_right(self):
        for reading in (Reading("net", "a", {}), Reading("net", "a", {"x": E}, after=("c", ("net", "b")))):
            self.taken(readings=(reading,))
        self.taken(readings=(Reading("net", "a", {}), Reading("web", "a", {})), blocks=(Block("net", "b", {}),))

    def test_no_readings(self):
        self.no_tuple("readings")
        self.refused("readings", readings=[Reading("net", "a", {})])
        for thing in [one for one in odd.ALL if not isinstance(one, Reading)]:
            self.refused("readings", readings=(Reading("net", "b", {}), thing))

    def test_each_parameter_wrong(self):
        for thing in odd.all_but(odd.NAMES):
            self.refused("readings", readings=(Reading(thing, "a", {}),))
            self.refused("readings", readings=(Reading("net", thing, {}),))
        for thing in odd.all_but(odd.NO_KEYS):
            self.refused("readings", readings=(Reading("net", "a", thing),))
        for thing in (None, "c", [], {}, (1,), ("C",), (("net",),)):
            self.refused("readings", readings=(Reading("net", "a", {}, after=thing),))

    def test_one_twice_or_with_the_name_of_a_block(self):
        self.refused("readings", readings=(Reading("net", "a", {}), Reading("net", "a", {"x": ONE})))
        self.refused("readings", readings=(Reading("net", "a", {}),), blocks=(Block("net", "a", {}),))
        two = (Reading("web", "a", {}), Reading("net", "a", {}))
        self.refused("readings", readings=two, blocks=(Block("net", "a", {}),))


class Calls(Case):
    def test_what_is_right(self):
        for call in (Call("c", Config(), {}), Call("c", Config(params=("p",)), {"p": E}, after=(("net", "b"), "d"))):
            self.taken(calls=(call,))
        self.taken(calls=(Call("c", Config(), {}), Call("d", Config(), {})))

    def test_no_calls(self):
        self.no_tuple("calls")
        self.refused("calls", calls=[Call("c", Config(), {})])
        for thing in [one for one in odd.ALL if not isinstance(one, Call)]:
            self.refused("calls", calls=(Call("d", Config(), {}), thing))

    def test_each_parameter_wrong(self):
        for thing in odd.all_but(odd.NAMES):
            self.refused("calls", calls=(Call(thing, Config(), {}),))
        for thing in [one for one in odd.ALL if not isinstance(one, Config)]:
            self.refused("calls", calls=(Call("c", thing, {}),))
        for thing in odd.all_but(odd.NO_KEYS):
            self.refused("calls", calls=(Call("c", Config(), thing),))
        for thing in (None, "c", [], {}, (1,), ("C",), (("net",),)):
            self.refused("calls", calls=(Call("c", Config(), {}, after=thing),))

    def test_a_name_twice(self):
        self.refused("calls", calls=(Call("c", Config(), {}), Call("c", Config(params=("p",)), {"p": ONE})))


class Outputs(Case):
    def test_what_is_wrong(self):
        self.no_tuple("outputs")
        for thing in odd.all_but(odd.NAMES):
            self.refused("outputs", outputs=((thing, ONE),))
            self.refused("outputs", outputs=(("o", ONE), thing))
        for thing in ("o", ["p", ONE], ("p",), ("p", ONE, ONE), (ONE, "p")):
            self.refused("outputs", outputs=(("o", ONE), thing))
        self.refused("outputs", outputs={"o": ONE})

    def test_a_name_twice(self):
        self.refused("outputs", outputs=(("o", ONE), ("o", E)))
        self.refused("outputs", outputs=(("o", ONE), ("p", E), ("o", ONE)))
        self.taken(outputs=(("o", ONE), ("p", E)))


class Moves(Case):
    def moves(self, *pairs):
        return tuple(Move(old, new) for old, new in pairs)

    def right(self, *pairs, blocks=()):
        for order in itertools.permutations(pairs):
            self.taken(moves=self.moves(*order), blocks=blocks)

    def wrong(self, *pairs, blocks=()):
        for order in itertools.permutations(pairs):
            self.refused("moves", moves=self.moves(*order), blocks=blocks)

    def test_no_moves(self):
        self.no_tuple("moves")
        self.refused("moves", moves=[Move(("net", "a"), ("net", "b"))])
        for thing in [one for one in odd.ALL if not isinstance(one, Move)]:
            self.refused("moves", moves=(Move(("net", "c"), ("net", "d")), thing))

    def test_addresses(self):
        for key in (None, 0, 1, 10 ** 20, "", "a", "A b"):
            self.right((("net", "a", key), ("net", "b", key)))
            self.right((("net", "a", key), ("net", "a", 7)))
        self.right((("net", "a"), ("net", "b")))

    def test_addresses_of_other_forms(self):
        right = [one for one in odd.NAME_TUPLES if len(one) in (2, 3)]
        wrong = (
            *odd.all_but(right), ("net",), ["net", "a"], ("Net", "a"), ("net", "A"), ("net", ""), (1, "a"),
            ("net", 1), ((), "net", "a"), ((), "net", "a", None), ("net", "a", 0, 0), ("net", "a", -1),
            ("net", "a", True), ("net", "a", False), ("net", "a", 1.0), ("net", "a", ()), ("net", "a", []),
            ("net", "a", b"a"), ("net", "A", 0), ("Net", "a", 0), ("net", None, 0),
        )
        for thing in wrong:
            for other in (("net", "z"), ("net", "z", 5), thing):
                self.wrong((thing, other))
                self.wrong((other, thing))

    def test_both_of_a_block_or_both_of_an_instance(self):
        for key in (None, 0, "a"):
            self.wrong((("net", "a"), ("net", "b", key)))
            self.wrong((("net", "a", key), ("net", "b")))

    def test_of_one_kind_and_unlike(self):
        self.wrong((("net", "a"), ("web", "a")))
        self.wrong((("net", "a", 0), ("web", "a", 0)))
        self.wrong((("net", "a"), ("net", "a")))
        for key in (None, 0, "a"):
            self.wrong((("net", "a", key), ("net", "a", key)))

    def test_none_twice(self):
        a, b, c, d = [("net", name) for name in "abcd"]
        self.wrong((a, b), (a, c))
        self.wrong((a, c), (b, c))
        self.wrong((a, b), (a, b))
        self.right((a, b), (c, d))
        self.right((a, b), (b, c))
        self.wrong(((*a, 0), (*b, 0)), ((*a, 0), (*b, 1)))
        self.wrong(((*a, 0), (*b, 0)), ((*a, 1), (*b, 0)))
        self.right(((*a, 0), (*b, 0)), ((*a, 1), (*b, 1)), ((*a, "x"), (*b, None)))
        self.right((a, b), (("web", "a"), ("web", "b")))

    def test_no_instance_of_another_one_that_is_a_block(self):
        a, b, c, d = [("net", name) for name in "abcd"]
        for key in (None, 0, "x"):
            self.wrong((a, b), ((*a, key), (*c, key)))
            self.wrong((a, b), ((*b, key), (*c, key)))
            self.wrong((a, b), ((*c, key), (*a, key)))
            self.wrong((a, b), ((*c, key), (*b, key)))
            self.wrong((a, b), ((*c, 5), (*b, key)), (("net", "x"), ("net", "y")))
            self.right((a, b), ((*c, key), (*d, key)))
            self.right((a, b), (("web", "a", key), ("web", "b", key)))

    def test_no_ring(self):
        a, b, c, d, e = [("net", name) for name in "abcde"]
        for key in ((), (None,), (0,), ("x",)):
            w, x, y, z, v = [(*one, *key) for one in (a, b, c, d, e)]
            self.wrong((w, x), (x, w))
            self.wrong((w, x), (x, y), (y, w))
            self.wrong((w, x), (y, z), (z, y))
            self.wrong((w, x), (x, y), (y, z), (z, w))
            self.wrong((v, w), (w, v), (x, y), (y, z))
            self.right((w, x), (x, y), (y, z), (z, v))
            self.right((w, x), (x, y), (z, v))
        self.wrong(((*a, 0), (*a, 1)), ((*a, 1), (*a, 0)))
        self.right(((*a, 0), (*a, 1)), ((*a, 1), (*a, 2)))

    def test_no_old_one_written(self):
        once, count, keys = None, ("count", ONE), ("keys", E)
        sorts = {once: (None,), count: (0, 1, 10 ** 20), keys: ("", "x")}
        for many in sorts:
            blocks = (Block("web", "a", {}), Block("net", "a", {}, many=many))
            self.wrong((("net", "a"), ("net", "b")), blocks=blocks)
            self.right((("net", "b"), ("net", "a")), blocks=blocks)
            self.right((("net", "b"), ("net", "c")), blocks=blocks)
            for other in sorts:
                for key in sorts[other]:
                    check = self.wrong if other is many else self.right
                    check((("net", "a", key), ("net", "b", key)), blocks=blocks)
                    check((("net", "a", key), ("net", "a", 7)), blocks=blocks)
                    self.right((("net", "b", key), ("net", "a", key)), blocks=blocks)

    def test_a_reading_is_no_block(self):
        self.taken(moves=self.moves((("net", "a"), ("net", "b"))), readings=(Reading("net", "a", {}),))

    def test_one_of_several_is_wrong(self):
        rest = [(("net", name), ("net", name * 2)) for name in "abc"]
        self.right(*rest)
        self.wrong(*rest, (("net", "aa"), ("net", "a")))
        self.wrong(*rest, (("net", "x"), ("web", "x")))
        self.wrong(*rest, (("net", "x"), ("net", "x")))
        self.wrong(*rest, (("net", "x"), ("net", "y")), blocks=(Block("net", "x", {}),))


class Several(Case):
    RIGHT = {
        "params": ("p", ("q", 1)), "blocks": (Block("net", "a", {"x": E}),), "readings": (Reading("net", "b", {}),),
        "calls": (Call("c", Config(params=("p",)), {"p": E}),), "outputs": (("o", ONE),),
        "moves": (Move(("net", "x"), ("net", "y")),),
    }
    WRONG = {
        "params": ("p", "p"), "blocks": (Block("net", "A", {}),), "readings": (Reading("net", "a", []),),
        "calls": (Call("c", None, {}),), "outputs": (("o",),), "moves": (Move(("net", "x"), ("net", "x")),),
    }

    def test_all_right(self):
        self.taken(**self.RIGHT)
        self.taken()

    def test_the_first_is_told(self):
        names = list(self.RIGHT)
        for mask in range(1, 2 ** len(names)):
            wrong = [name for at, name in enumerate(names) if mask >> at & 1]
            self.refused(wrong[0], **{**self.RIGHT, **{name: self.WRONG[name] for name in wrong}})

    def test_by_name_only(self):
        self.assertRaises(TypeError, Config, ())
        self.assertRaises(TypeError, Config, params=(), others=())

    def test_what_names_something_that_is_not_there_is_none_the_less_one(self):
        call = Call("c", Config(), {"none": E}, after=("none",))
        self.taken(outputs=(("o", ("of", "net", "none", "none")),), calls=(call,))

    def test_nothing_is_changed(self):
        before = {name: copy.deepcopy(value) for name, value in self.RIGHT.items()}
        Config(**self.RIGHT)
        self.assertEqual(Config(**before), Config(**self.RIGHT))
        self.assertEqual(before["blocks"], self.RIGHT["blocks"])


if __name__ == "__main__":
    unittest.main()
