"""Points 2.4 and 2.5: addresses, their order, and which blocks and readings refer to which."""

import copy
import itertools
import random
import unittest

from planfirst.addresses import is_instance_address, place
from planfirst.configs import Block, Call, Config, Reading
from planfirst.errors import BadConfig
from planfirst.kinds import Kind
from planfirst.layout import needs

ONE = ("say", 1)
NET = Kind("net", (("range", "wanted", True, None),), (("id", ("id",)),))
WEB = Kind(
    "web", (("net", "open", True, None), ("title", "filled", False, {})), (("id", ("id",)), ("stamp", ("mark",))),
)
KINDS = {"net": NET, "web": WEB}


def of(name, kind="web", attribute="id"):
    return ("of", kind, name, attribute)


def web(name, expression=ONE, **others):
    return Block("web", name, {"title": expression}, **others)


def net(name, expression=ONE, **others):
    return Block("net", name, {"range": expression}, **others)


class Case(unittest.TestCase):
    def finds(self, found, kinds=KINDS, **parts):
        """Whether needs of the configuration are these; names stand for web blocks at the top."""
        with self.subTest(**parts):
            found = {long(at): tuple(sorted(long(one) for one in ones)) for at, ones in found.items()}
            self.assertEqual(needs(Config(**parts), kinds), found)

    def bad(self, at, why, kinds=KINDS, **parts):
        with self.subTest(**parts):
            with self.assertRaises(BadConfig) as caught:
                needs(Config(**parts), kinds)
            self.assertEqual((caught.exception.at, caught.exception.why), (long(at), why))


def long(at):
    return ((), "web", at) if isinstance(at, str) else at


class Addresses(unittest.TestCase):
    def test_their_order(self):
        paths = [(), ("a",), ("a", "a"), ("a", "b"), ("ab",), ("b",), ("b", "a")]
        keys = [(), (None,), (0,), (2,), (10,), ("",), ("10",), ("2",), ("a",)]
        ordered = [
            (path, kind, name, *key)
            for path, kind, name, key in itertools.product(paths, ["", "a", "net"], ["", "a", "ab", "b"], keys)
        ]
        mixed = ordered[:]
        random.Random(1).shuffle(mixed)
        self.assertEqual(sorted(mixed, key=place), ordered)

    def test_what_is_one_of_an_instance(self):
        for key in (None, 0, 7, "", "A b"):
            for path in ((), ("a",), ("a", "b")):
                self.assertTrue(is_instance_address((path, "net", "main", key)))
        for thing in (
            None, (), [], "a", ((), "net", "main"), [(), "net", "main", 0], ((), "net", "main", 0, 0),
            ((), "net", "main", -1), ((), "net", "main", True), ((), "net", "main", 1.0), ((), "net", "main", []),
            ((), "net", "main", ()), ("a", "net", "main", 0), ([], "net", "main", 0), (("A",), "net", "main", 0),
            ((1,), "net", "main", 0), ((), "Net", "main", 0), ((), "net", "", 0), ((), None, "main", 0),
            ((), "net", None, 0), ((), "", "main", 0),
        ):
            self.assertFalse(is_instance_address(thing))


class Needs(Case):
    def test_none(self):
        self.assertEqual(needs(Config(), {}), {})
        self.finds({}, params=("p",), outputs=(("o", ("param", "p")),))
        self.finds({"a": (), "b": ()}, blocks=(web("a"), web("b")))

    def test_of_each_expression(self):
        for expression in (
            of("b"), ("tuple", (ONE, of("b"))), ("map", (("x", ONE), ("y", of("b")))), ("join", (of("b"), ONE)),
            ("if", of("b"), ONE, ONE), ("if", ONE, of("b"), ONE), ("if", ONE, ONE, of("b")), ("same", of("b"), ONE),
            ("same", ONE, of("b")), ("size", of("b")), ("pick", of("b"), ONE), ("pick", ONE, of("b")),
            ("at", "web", "c", of("b"), "id"), ("if", ("say", True), ONE, ("size", ("tuple", (of("b"), of("b"))))),
        ):
            blocks = (web("a", expression), web("b"), web("c", many=("count", ONE)))
            more = ("c",) if expression[0] == "at" else ()
            self.finds({"a": ("b", *more), "b": (), "c": ()}, blocks=blocks)

    def test_of_each_reference(self):
        for many in (("count", ONE), ("keys", ("say", ()))):
            for reference in (("at", "web", "b", ONE, "stamp"), ("each", "web", "b", "net")):
                self.finds({"a": ("b",), "b": ()}, blocks=(web("a", reference), web("b", many=many)))
        for attribute in ("id", "stamp", "net", "title"):
            self.finds({"a": ("b",), "b": ()}, blocks=(web("a", of("b", attribute=attribute)), web("b")))
        for attribute in ("ids", "size"):
            self.finds(
                {"a": ("b",), "b": ()}, blocks=(web("a", of("b", attribute=attribute)),),
                readings=(Reading("web", "b", {}),),
            )

    def test_at_each_place(self):
        for block in (
            Block("web", "a", {"net": ONE, "title": of("b")}), Block("web", "a", {"net": of("b")}),
            web("a", many=("count", of("b"))), web("a", many=("keys", of("b"))), web("a", ahead=of("b")),
            web("a", after=(("web", "b"),)), web("a", replaced_by=(("web", "b"),)),
            web("a", replaced_by=(("web", "b", "id"),)), Block("web", "a", {"title": of("b")}, ignored=("title",)),
        ):
            self.finds({"a": ("b",), "b": ()}, blocks=(block, web("b")))
            self.finds({"a": ("b",), "b": ()}, blocks=(web("b"), block), outputs=(("o", of("b")),))
        two = {"net": ONE, "title": of("b")}
        for reading in (Reading("web", "a", two), Reading("web", "a", {}, after=(("web", "b"),))):
            self.finds({"a": ("b",), "b": ()}, blocks=(web("b"),), readings=(reading,))
        ids = of("b", attribute="ids")
        for reading in (Reading("web", "a", {"title": ids}), Reading("web", "a", {}, after=(("web", "b"),))):
            self.finds({"a": ("b",), "b": ()}, readings=(reading, Reading("web", "b", {})))

    def test_sorted_and_each_once(self):
        after = (("web", "c"), ("web", "b"))
        a = web("a", ("tuple", (of("d"), of("b"), of("d"))), after=after, many=("count", of("c")))
        self.finds({"a": ("b", "c", "d"), "b": (), "c": (), "d": ()}, blocks=(a, web("d"), web("c"), web("b")))
        found = needs(Config(blocks=(web("b"), net("z"), web("a", ("tuple", (of("b"), of("z", "net")))))), KINDS)
        self.assertEqual(found[long("a")], (((), "net", "z"), ((), "web", "b")))

    def test_directly_only(self):
        self.finds({"a": ("b",), "b": ("c",), "c": ()}, blocks=(web("a", of("b")), web("b", of("c")), web("c")))

    def test_own_words(self):
        words = ("tuple", (("own", "key"), ("own", "value")))
        self.finds({"a": ()}, blocks=(web("a", words, many=("keys", ("say", ())), ahead=words),))
        self.finds({"a": ()}, blocks=(web("a", ("own", "index"), many=("count", ONE), ahead=("own", "index")),))

    def test_new_dicts_and_nothing_is_changed(self):
        config = Config(blocks=(web("a", of("b")), web("b")))
        before, kinds = copy.deepcopy(config), copy.deepcopy(KINDS)
        first, second = needs(config, KINDS), needs(config, KINDS)
        self.assertIsNot(first, second)
        first.clear()
        self.assertEqual(second, needs(config, KINDS))
        self.assertEqual((config, KINDS), (before, kinds))


class Calls(Case):
    P, Q = ("param", "p"), ("param", "q")

    def test_through_parameters(self):
        blocks = (web("x", self.P), web("y", ("param", "r")), web("z", self.Q))
        inner = Config(params=("p", "q", ("r", 1)), blocks=blocks)
        call = Call("c", inner, {"p": ("tuple", (of("a"), of("b"))), "q": ONE})
        self.finds(
            {"a": (), "b": (), (("c",), "web", "x"): ("a", "b"), (("c",), "web", "y"): (), (("c",), "web", "z"): ()},
            calls=(call,), blocks=(web("a"), web("b")),
        )
        call = Call("c", inner, {"p": ONE, "q": of("b"), "r": of("a")})
        self.finds(
            {"a": (), "b": (), (("c",), "web", "x"): (), (("c",), "web", "y"): ("a",), (("c",), "web", "z"): ("b",)},
            calls=(call,), blocks=(web("a"), web("b")),
        )

    def test_a_parameter_at_each_place(self):
        for block in (
            web("x", self.P), web("x", ("if", ONE, ONE, self.P)), web("x", many=("count", self.P)),
            web("x", ahead=self.P), web("x", many=("keys", self.P)),
        ):
            call = Call("c", Config(params=("p",), blocks=(block,)), {"p": of("a")})
            self.finds({"a": (), (("c",), "web", "x"): ("a",)}, calls=(call,), blocks=(web("a"),))
        inner = Config(params=("p",), readings=(Reading("web", "x", {"title": self.P}),))
        call = Call("c", inner, {"p": of("a")})
        self.finds({"a": (), (("c",), "web", "x"): ("a",)}, calls=(call,), blocks=(web("a"),))

    def test_through_outputs(self):
        inner = Config(
            params=("p",), blocks=(web("x"), web("y", of("x"))),
            outputs=(("one", of("y")), ("two", ("tuple", (of("x"), self.P))), ("three", ONE)),
        )
        call = Call("c", inner, {"p": of("d")})
        x, y = (("c",), "web", "x"), (("c",), "web", "y")
        for word, found in (("one", (y,)), ("two", (x, "d")), ("three", ())):
            blocks = (web("a", ("out", "c", word)), web("d"))
            self.finds({"a": found, "d": (), x: (), y: (x,)}, calls=(call,), blocks=blocks)

    def test_through_calls_in_calls(self):
        inmost = Config(params=("p",), blocks=(web("x", self.P),), outputs=(("o", ("tuple", (of("x"), self.P))),))
        middle = Config(
            params=("q",), blocks=(web("y"),), calls=(Call("d", inmost, {"p": ("tuple", (self.Q, of("y")))}),),
            outputs=(("o", ("out", "d", "o")),),
        )
        x, y = (("c", "d"), "web", "x"), (("c",), "web", "y")
        self.finds(
            {"a": (x, y, "b"), "b": (), x: ("b", y), y: ()},
            calls=(Call("c", middle, {"q": of("b")}),), blocks=(web("a", ("out", "c", "o")), web("b")),
        )

    def test_own_words_are_no_parameters(self):
        words = ("tuple", (("own", "key"), ("own", "value")))
        inner = Config(params=("key", "value"), blocks=(web("x", words, many=("keys", ("say", ()))),))
        call = Call("c", inner, {"key": of("a"), "value": of("a")})
        self.finds({"a": (), (("c",), "web", "x"): ()}, calls=(call,), blocks=(web("a"),))

    def test_one_configuration_called_twice(self):
        inner = Config(params=("p",), blocks=(web("x", self.P),), outputs=(("o", of("x")),))
        c, d = (("c",), "web", "x"), (("d",), "web", "x")
        calls = (Call("c", inner, {"p": ONE}), Call("d", inner, {"p": ("out", "c", "o")}))
        self.finds({c: (), d: (c,)}, calls=calls)

    def test_after_a_call(self):
        inmost = Config(blocks=(web("z"),), readings=(Reading("net", "r", {}),))
        inner = Config(blocks=(web("x"), web("y")), calls=(Call("d", inmost, {}),))
        inside = {
            (("c",), "web", "x"): (), (("c",), "web", "y"): (), (("c", "d"), "web", "z"): (),
            (("c", "d"), "net", "r"): (),
        }
        call = Call("c", inner, {})
        self.finds({"a": tuple(inside), **inside}, calls=(call,), blocks=(web("a", after=("c",)),))
        self.finds({"a": tuple(inside), **inside}, calls=(call,), readings=(Reading("web", "a", {}, after=("c",)),))
        blocks = (web("a", after=("c", ("web", "b"))), web("b"))
        self.finds({"a": ("b", *inside), "b": (), **inside}, calls=(call,), blocks=blocks)
        self.finds({"a": ()}, calls=(Call("c", Config(), {}),), blocks=(web("a", after=("c",)),))
        # A call whose name begins with another one's is another one.
        more = {(("cc",), "web", "x"): ()}
        other = Call("cc", Config(blocks=(web("x"),)), {})
        self.finds({"a": tuple(inside), **inside, **more}, calls=(call, other), blocks=(web("a", after=("c",)),))

    def test_a_call_with_after(self):
        inmost = Config(blocks=(web("z"),))
        inner = Config(
            blocks=(web("x"), web("y", of("x"))), readings=(Reading("net", "r", {}),),
            calls=(Call("d", inmost, {}, after=(("web", "x"),)),),
        )
        x, y, z, r = (("c",), "web", "x"), (("c",), "web", "y"), (("c", "d"), "web", "z"), (("c",), "net", "r")
        self.finds(
            {"a": (), x: ("a",), y: ("a", x), z: ("a", x), r: ("a",)}, blocks=(web("a"),),
            calls=(Call("c", inner, {}, after=(("web", "a"),)),),
        )
        e = (("e",), "web", "z")
        self.finds(
            {x: (e,), y: (e, x), z: (e, x), r: (e,), e: ()},
            calls=(Call("c", inner, {}, after=("e",)), Call("e", inmost, {})),
        )

    def test_after_does_not_make_arguments_and_outputs_refer(self):
        inner = Config(params=("p",), outputs=(("o", self.P),))
        self.finds({"a": (), "b": ()}, blocks=(web("a", ("out", "c", "o")), web("b")),
                   calls=(Call("c", inner, {"p": ONE}, after=(("web", "b"),)),))


class Problems(Case):
    def test_kind(self):
        self.bad("a", "kind", {}, blocks=(web("a"),))
        self.bad("a", "kind", {"net": NET}, blocks=(web("a"),))
        self.bad("a", "kind", {"web": NET}, blocks=(web("a"),))
        self.bad("a", "kind", {"web": Kind("wed", WEB.given, WEB.made)}, blocks=(web("a"),))
        self.bad("a", "kind", {"web": NET}, readings=(Reading("web", "a", {}),))
        self.bad("a", "kind", {}, readings=(Reading("web", "a", {}),))
        for thing in (None, 1, "web", Kind, Config()):
            self.bad("a", "kind", {"web": thing}, blocks=(web("a"),))

    def test_attribute(self):
        for name in ("id", "stamp", "range", "none", "ids"):
            self.bad("a", "attribute", blocks=(Block("web", "a", {"title": ONE, name: ONE}),))
            self.bad("a", "attribute", blocks=(web("a", ignored=("title", name)),))
            self.bad("a", "attribute", readings=(Reading("web", "a", {"title": ONE, name: ONE}),))

    def test_wanted(self):
        at = ((), "net", "a")
        self.bad(at, "wanted", blocks=(Block("net", "a", {}),))
        self.bad(at, "wanted", blocks=(Block("net", "a", {}, ignored=("range",)),))
        self.finds({at: ()}, readings=(Reading("net", "a", {}),))
        self.finds({at: ()}, blocks=(Block("net", "a", {"range": ("say", None)}),))
        self.finds({"a": ()}, blocks=(Block("web", "a", {}),))

    def test_argument(self):
        at = ((), "", "c")
        inner = Config(params=("p", ("q", 1)))
        for arguments in ({}, {"q": ONE}, {"p": ONE, "r": ONE}, {"r": ONE}, {"p": ONE, "q": ONE, "none": ONE}):
            self.bad(at, "argument", calls=(Call("c", inner, arguments),))
        for arguments in ({"p": ONE}, {"p": ONE, "q": ONE}):
            self.finds({}, calls=(Call("c", inner, arguments),))
        self.bad(at, "argument", params=("r",), calls=(Call("c", inner, {"p": ONE, "r": ONE}),))

    # What refers to nothing that is there, seen from the scope that wrong() makes.
    MISSING = (
        ("param", "none"), ("param", "a"), ("param", "inside"), ("out", "none", "o"), ("out", "c", "none"),
        ("out", "c", "p"), ("out", "a", "id"), of("none"), of("x"), of("none", "net"), of("a", "none"),
        of("a", attribute="none"), of("a", attribute="range"), of("a", attribute="ids"), of("r", attribute="id"),
        of("r", attribute="title"), of("r", attribute="range"), of("n"), of("k"), ("at", "web", "a", ONE, "id"),
        ("at", "web", "none", ONE, "id"), ("at", "web", "r", ONE, "size"), ("at", "web", "n", ONE, "none"),
        ("at", "web", "k", ONE, "ids"), ("each", "web", "a", "id"), ("each", "web", "none", "id"),
        ("each", "web", "r", "ids"), ("each", "web", "n", "none"), ("each", "web", "k", "range"), ("own", "key"),
        ("own", "value"), ("own", "index"),
    )
    THERE = (
        ("param", "p"), ("param", "q"), ("out", "c", "o"), of("a"), of("a", attribute="title"),
        of("a", attribute="stamp"), of("r", attribute="ids"), of("r", attribute="size"), ("at", "web", "n", ONE, "id"),
        ("at", "web", "k", ONE, "title"), ("each", "web", "n", "id"), ("each", "web", "k", "net"),
    )

    def parts(self, **more):
        inner = Config(params=(("inside", 1),), blocks=(web("x"),), outputs=(("o", of("x")),))
        parts = {
            "params": ("p", ("q", 1)),
            "blocks": (web("a"), web("n", many=("count", ONE)), web("k", many=("keys", ("say", ())))),
            "readings": (Reading("web", "r", {}),), "calls": (Call("c", inner, {}),),
        }
        return {**parts, **{name: parts.get(name, ()) + value for name, value in more.items()}}

    def places(self, expression):
        """Where an expression may stand, with the address and the word of what is wrong there."""
        yield "b", "name", {"blocks": (web("b", expression),)}
        yield "b", "name", {"blocks": (web("b", ahead=expression),)}
        yield "b", "name", {"blocks": (web("b", many=("count", expression)),)}
        yield "b", "name", {"blocks": (web("b", many=("keys", expression)),)}
        yield "b", "name", {"readings": (Reading("web", "b", {"net": ONE, "title": expression}),)}
        inner = Config(params=("one", "two"))
        yield ((), "", "d"), "name", {"calls": (Call("d", inner, {"one": ONE, "two": expression}),)}
        yield ((), "", ""), "output", {"outputs": (("o", ONE), ("t", expression))}

    def test_name(self):
        for reference in self.MISSING:
            inside = ("tuple", (ONE, ("if", ONE, ("param", "p"), reference)))
            for expression in (reference, inside, ("pick", ONE, reference)):
                for at, why, more in self.places(expression):
                    self.bad(at, why, **self.parts(**more))
        for reference in self.THERE:
            for _, _, more in self.places(reference):
                needs(Config(**self.parts(**more)), KINDS)

    def test_own_words(self):
        for word, many in itertools.product(("key", "value", "index"), (None, "count", "keys")):
            right = word in {None: (), "count": ("index",), "keys": ("key", "value")}[many]
            how = many if many is None else (many, ONE)
            for block in (web("a", ("own", word), many=how), web("a", many=how, ahead=("size", ("own", word)))):
                if right:
                    self.finds({"a": ()}, blocks=(block,))
                else:
                    self.bad("a", "name", blocks=(block,))
            if many is not None:
                # They belong to the instances, of which there are none yet where many is reckoned.
                self.bad("a", "name", blocks=(web("a", many=(many, ("own", word))),))

    def test_name_in_after(self):
        for thing in (("web", "none"), ("net", "a"), "none", "a", "p", ("web", "c"), ("web", "x")):
            self.bad("b", "name", **self.parts(blocks=(web("b", after=(("web", "a"), thing)),)))
            self.bad("b", "name", **self.parts(readings=(Reading("web", "b", {}, after=(thing,)),)))
            self.bad(((), "", "d"), "name", **self.parts(calls=(Call("d", Config(), {}, after=(thing,)),)))
        for thing in (("web", "a"), ("web", "r"), ("web", "n"), ("web", "k"), "c"):
            needs(Config(**self.parts(blocks=(web("b", after=(thing,)),))), KINDS)

    def test_name_in_replaced_by(self):
        for thing in (("web", "none"), ("web", "r"), ("web", "r", "ids"), ("web", "a", "none"), ("web", "a", "range"),
                      ("web", "n", "ids"), ("net", "a"), ("net", "a", "range"), ("web", "c"), ("web", "x")):
            self.bad("b", "name", **self.parts(blocks=(web("b", replaced_by=(("web", "a"), thing)),)))
        for thing in (("web", "a"), ("web", "n"), ("web", "a", "id"), ("web", "n", "title"), ("web", "k", "stamp")):
            needs(Config(**self.parts(blocks=(web("b", replaced_by=(thing,)),))), KINDS)

    def test_a_block_without_a_kind_has_no_attributes(self):
        kinds = {"web": WEB}
        replaced = web("a", replaced_by=(("zoo", "a", "id"),))
        for block in (web("a", of("a", "zoo")), web("a", ("each", "zoo", "k", "id")), replaced):
            zoo = (Block("zoo", "a", {}), Block("zoo", "k", {}, many=("count", ONE)))
            self.bad("a", "name", kinds, blocks=(block, *zoo))
            self.bad("a", "name", kinds, blocks=(*zoo, block))
        self.bad(((), "zoo", "a"), "kind", kinds, blocks=(web("a", after=(("zoo", "a"),)), Block("zoo", "a", {})))
        self.bad(((), "zoo", "a"), "kind", kinds, blocks=(web("a", replaced_by=(("zoo", "a"),)), Block("zoo", "a", {})))
        # A reading has its attributes none the less, and so has a block whose Kind is there under another name.
        reading = Reading("zoo", "a", {})
        self.bad(((), "zoo", "a"), "kind", kinds, blocks=(web("a", of("a", "zoo", "ids")),), readings=(reading,))
        other = {"web": WEB, "zoo": NET}
        self.bad(((), "zoo", "a"), "kind", other, blocks=(web("a", of("a", "zoo", "range")), Block("zoo", "a", {})))
        self.bad("a", "name", other, blocks=(web("a", of("a", "zoo", "title")), Block("zoo", "a", {})))

    def test_output_of_a_call(self):
        for expression in (("param", "q"), of("a"), ("out", "c", "o"), of("x", attribute="none"), ("own", "key")):
            inner = Config(params=("p",), blocks=(web("x"),), outputs=(("o", of("x")), ("t", ("size", expression))))
            call = Call("c", inner, {"p": ONE})
            self.bad(((), "", "c"), "output", params=("q",), calls=(call,), blocks=(web("a"),))
            self.bad((("b",), "", "c"), "output", calls=(Call("b", Config(calls=(call,)), {}),))

    def test_scopes_do_not_see_each_other(self):
        for expression in (("param", "q"), of("a"), ("out", "d", "o"), ("each", "web", "n", "id")):
            for block in (web("x", expression), web("x", ahead=expression), web("x", many=("count", expression))):
                inner = Config(blocks=(block,), outputs=(("o", ONE),))
                self.bad(
                    (("c",), "web", "x"), "name", params=("q",), blocks=(web("a"), web("n", many=("count", ONE))),
                    calls=(Call("c", inner, {}), Call("d", Config(outputs=(("o", ONE),)), {})),
                )

    def test_the_first_word_at_one_address(self):
        nowhere, at = of("none"), ((), "net", "a")
        self.bad("a", "kind", {}, blocks=(Block("web", "a", {"none": nowhere}),))
        self.bad(at, "attribute", blocks=(Block("net", "a", {"none": nowhere}),))
        self.bad(at, "attribute", blocks=(Block("net", "a", {}, ignored=("none",), after=("none",)),))
        self.bad(at, "wanted", blocks=(Block("net", "a", {}, after=("none",), ahead=nowhere),))
        self.bad(at, "name", blocks=(net("a", nowhere, after=(at[1:],)),))
        self.bad("a", "kind", {}, readings=(Reading("web", "a", {"none": nowhere}),))
        self.bad("a", "attribute", readings=(Reading("web", "a", {"none": nowhere}),))
        inner = Config(params=("p",), outputs=(("o", nowhere),))
        at = ((), "", "c")
        self.bad(at, "argument", calls=(Call("c", inner, {"q": nowhere}, after=("none",)),))
        self.bad(at, "argument", calls=(Call("c", inner, {}, after=("none",)),))
        self.bad(at, "name", calls=(Call("c", inner, {"p": nowhere}),))
        self.bad(at, "name", calls=(Call("c", inner, {"p": ONE}, after=("none",)),))
        self.bad(at, "output", calls=(Call("c", inner, {"p": ONE}),))

    def test_the_least_address(self):
        """Each problem by itself, with any of those at greater addresses."""
        broken = Config(outputs=(("o", of("none")),))
        inner = Config(blocks=(web("x", of("none")),), calls=(Call("a", broken, {}),))
        rows = (
            (((), "", ""), "output", "outputs", ("o", of("none"))),
            (((), "", "b"), "argument", "calls", Call("b", Config(), {"p": ONE})),
            (((), "", "c"), "output", "calls", Call("c", broken, {})),
            (((), "net", "a"), "wanted", "blocks", Block("net", "a", {})),
            (((), "net", "b"), "attribute", "readings", Reading("net", "b", {"id": ONE})),
            (((), "web", "a"), "name", "blocks", web("a", of("none"))),
            (((), "zoo", "a"), "kind", "blocks", Block("zoo", "a", {})),
            ((("d",), "", "a"), "output", "calls", Call("d", inner, {})),
            ((("e",), "web", "x"), "name", "calls", Call("e", Config(blocks=inner.blocks), {})),
        )
        for mask in range(1, 2 ** len(rows)):
            taken = [row for at, row in enumerate(rows) if mask >> at & 1]
            for ordered in (taken, taken[::-1]):
                parts = {}
                for _, _, part, thing in ordered:
                    parts[part] = (*parts.get(part, ()), thing)
                with self.assertRaises(BadConfig) as caught:
                    needs(Config(**parts), KINDS)
                self.assertEqual((caught.exception.at, caught.exception.why), taken[0][:2])

    def test_a_ring_is_told_behind_all(self):
        ring = (web("a", of("b")), web("b", of("a")))
        self.bad("a", "ring", blocks=ring)
        self.bad("c", "name", blocks=(*ring, web("c", of("none"))))
        call = Call("c", Config(blocks=(Block("zoo", "z", {}),)), {})
        self.bad((("c",), "zoo", "z"), "kind", blocks=ring, calls=(call,))


class Rings(Case):
    P, O = ("param", "p"), ("out", "c", "o")

    def test_of_blocks(self):
        self.bad("a", "ring", blocks=(web("a", of("a")),))
        for block in (
            web("b", after=(("web", "a"),)), web("b", ahead=of("a")), web("b", replaced_by=(("web", "a"),)),
            web("b", replaced_by=(("web", "a", "id"),)), Block("web", "b", {"net": of("a")}),
            Block("web", "b", {"title": of("a")}, ignored=("title",)),
        ):
            self.bad("a", "ring", blocks=(block, web("a", of("b"))))
        block = web("b", many=("count", of("a")))
        self.bad("a", "ring", blocks=(block, web("a", ("each", "web", "b", "id"))))
        self.bad("a", "ring", blocks=(web("a", ("if", ("say", False), of("a"), ONE)),))
        self.bad("a", "ring", blocks=(web("c", of("a")), web("a", of("b")), web("b", of("c")), web("d")))

    def test_of_readings(self):
        self.bad("r", "ring", readings=(Reading("web", "r", {}, after=(("web", "r"),)),))
        self.bad("r", "ring", readings=(Reading("web", "r", {"title": of("r", attribute="size")}),))
        block, reading = web("a", of("r", attribute="size")), Reading("web", "r", {"title": of("a")})
        self.bad("a", "ring", blocks=(block,), readings=(reading,))

    def test_only_what_is_on_it(self):
        # a refers to the ring and d is referred to by it; neither is on it.
        blocks = (web("a", of("b")), web("b", of("c")), web("c", ("tuple", (of("b"), of("d")))), web("d"))
        self.bad("b", "ring", blocks=blocks)
        # a stands between two rings.
        two = (web("x", of("x")), web("a", of("x")), web("w", ("tuple", (of("w"), of("a")))))
        self.bad("w", "ring", blocks=two)

    def test_none_of_them(self):
        blocks = (web("a", ("tuple", (of("b"), of("c")))), web("b", of("d")), web("c", of("d")), web("d"))
        self.finds({"a": ("b", "c"), "b": ("d",), "c": ("d",), "d": ()}, blocks=blocks)
        # The output of a call may refer to nothing of what its argument refers to.
        inner = Config(params=("p",), blocks=(web("x"), web("y", self.P)), outputs=(("o", of("x")),))
        x, y = (("c",), "web", "x"), (("c",), "web", "y")
        self.finds({x: (), y: (x,)}, calls=(Call("c", inner, {"p": self.O}),))
        self.finds({"a": (x,), x: (), y: ("a",)}, blocks=(web("a", self.O),), calls=(Call("c", inner, {"p": of("a")}),))

    def test_through_calls(self):
        inner = Config(params=("p",), outputs=(("o", self.P),))
        at = ((), "", "c")
        self.bad(at, "ring", calls=(Call("c", inner, {"p": self.O}),))
        self.bad(at, "ring", calls=(Call("c", inner, {"p": ("tuple", (ONE, self.O))}),), blocks=(web("a"),))
        self.bad(at, "ring", calls=(Call("d", inner, {"p": self.O}), Call("c", inner, {"p": ("out", "d", "o")})))
        self.bad(at, "ring", calls=(Call("c", inner, {"p": of("a")}),), blocks=(web("a", self.O),))
        # The argument goes back to itself, whatever the block needs at the end.
        block = Config(params=("p",), blocks=(web("x", self.P),), outputs=(("o", of("x")),))
        self.bad(at, "ring", calls=(Call("c", block, {"p": self.O}),))
        self.bad(at, "ring", calls=(Call("c", block, {"p": of("a")}),), blocks=(web("a", self.O),))
        self.bad(at, "ring", calls=(Call("c", block, {"p": of("a")}),), blocks=(web("a", after=("c",)),))
        self.bad(at, "ring", readings=(Reading("web", "a", {"title": self.O}),),
                 calls=(Call("c", inner, {"p": of("a", attribute="ids")}),))

    def test_of_a_call_in_a_call(self):
        inner = Config(params=("p",), outputs=(("o", self.P),))
        middle = Config(params=("p",), calls=(Call("d", inner, {"p": ("out", "d", "o")}),), outputs=(("o", self.P),))
        self.bad((("c",), "", "d"), "ring", calls=(Call("c", middle, {"p": ONE}),))
        self.bad(((), "", "c"), "ring", calls=(Call("c", middle, {"p": self.O}),))
        self.bad((("c",), "", "d"), "ring", calls=(Call("c", middle, {"p": ONE}),), outputs=(("o", ("out", "c", "o")),))

    def test_a_call_whose_output_goes_to_a_ring(self):
        # The output of c refers to a ring in c, but is not on it itself.
        inner = Config(blocks=(web("x", of("y")), web("y", of("x"))), outputs=(("o", of("x")),))
        self.bad((("c",), "web", "x"), "ring", calls=(Call("c", inner, {}),), blocks=(web("a", self.O),))

    def test_through_after(self):
        inner = Config(blocks=(web("x"),))
        at = (("c",), "web", "x")
        self.bad("a", "ring", blocks=(web("a", after=("c",)),), calls=(Call("c", inner, {}, after=(("web", "a"),)),))
        self.bad(at, "ring", calls=(Call("c", inner, {}, after=("c",)),))
        self.bad(at, "ring", calls=(Call("d", inner, {}, after=("c",)), Call("c", inner, {}, after=("d",))))
        self.finds({}, calls=(Call("c", Config(), {}, after=("c",)),))
        call = Call("d", Config(blocks=(web("x"),)), {}, after=(("web", "x"),))
        middle = Config(blocks=(web("x", after=("d",)),), calls=(call,))
        self.bad((("c",), "web", "x"), "ring", calls=(Call("c", middle, {}),))

    def test_the_least_address_of_several_rings(self):
        loops = [web(name, of(name)) for name in "dbca"]
        for number in range(1, 5):
            for some in itertools.permutations(loops, number):
                self.bad(min(one.name for one in some), "ring", blocks=some)
        inner = Config(blocks=(web("a", of("a")),))
        self.bad("z", "ring", blocks=(web("z", of("z")),), calls=(Call("c", inner, {}),))


class Long(Case):
    def test_a_hundred_blocks_in_a_row(self):
        names = [first + second for first in "abcdefghij" for second in "abcdefghij"]
        row = [web(names[0])] + [web(names[at], of(names[at - 1])) for at in range(1, 100)]
        found = {name: (names[at - 1],) if at else () for at, name in enumerate(names)}
        for order in (row, row[::-1]):
            self.finds(found, blocks=tuple(order))
        self.bad(names[0], "ring", blocks=(web(names[0], of(names[99])), *row[1:]))
        behind = [web(name, after=tuple(("web", other) for other in names[:at])) for at, name in enumerate(names)]
        self.finds({name: tuple(names[:at]) for at, name in enumerate(names)}, blocks=tuple(behind))

    def test_two_hundred_arguments_and_outputs_in_a_row(self):
        inner = Config(params=("p",), outputs=(("o", ("param", "p")),))
        names = [first + second for first in "abcdefghij" for second in "abcdefghij"]

        def calls(first):
            rest = [Call(names[at], inner, {"p": ("out", names[at - 1], "o")}) for at in range(1, 100)]
            return Call(names[0], inner, {"p": first}), *rest

        last = ("out", names[99], "o")
        for order in (1, -1):
            self.finds({"a": ("b",), "b": ()}, blocks=(web("a", last), web("b")), calls=calls(of("b"))[::order])
            self.bad(((), "", names[0]), "ring", blocks=(web("a", last),), calls=calls(of("a"))[::order])
            self.bad(((), "", names[0]), "ring", calls=calls(last)[::order])

    def test_calls_six_deep(self):
        config = Config(params=("p",), blocks=(web("x", ("param", "p")),), outputs=(("o", of("x")),))
        for _ in range(6):
            config = Config(
                params=("p",), blocks=(web("x", ("param", "p")),), calls=(Call("c", config, {"p": ("param", "p")}),),
                outputs=(("o", ("out", "c", "o")),),
            )
        config = Config(params=config.params, blocks=(*config.blocks, web("z", ("out", "c", "o"))), calls=config.calls)
        found = {((*["c"] * depth,), "web", "x"): () for depth in range(7)}
        self.assertEqual(needs(config, KINDS), {**found, ((), "web", "z"): (((*["c"] * 6,), "web", "x"),)})
        top = Config(blocks=(web("a"),), calls=(Call("t", config, {"p": of("a")}),))
        self.assertEqual(needs(top, KINDS)[(("t", *["c"] * 6), "web", "x")], (((), "web", "a"),))

    def test_deep_expressions(self):
        for wrap in (
            lambda e: ("tuple", (ONE, e)), lambda e: ("if", ONE, e, ONE), lambda e: ("size", e),
            lambda e: ("join", (e,)), lambda e: ("map", (("a", e),)), lambda e: ("pick", e, ONE),
            lambda e: ("same", ONE, e),
        ):
            expression, wrong = of("b"), of("none")
            for _ in range(199):
                expression, wrong = wrap(expression), wrap(wrong)
            self.finds({"a": ("b",), "b": ()}, blocks=(web("a", expression), web("b")))
            self.bad("a", "name", blocks=(web("a", wrong), web("b")))
            self.bad("a", "ring", blocks=(web("a", expression), web("b", of("a"))))

    def test_many_ways_to_one_block(self):
        # Each output names the one before it twice: only by following each once does this come to an end.
        inner = Config(params=("p", "q"), outputs=(("o", ("tuple", (("param", "p"), ("param", "q")))),))
        names = [first + second for first in "abcdefghij" for second in "abcdefghij"]
        rest = [Call(names[at], inner, {word: ("out", names[at - 1], "o") for word in "pq"}) for at in range(1, 100)]
        calls = (Call(names[0], inner, {"p": of("b"), "q": ONE}), *rest)
        self.finds({"a": ("b",), "b": ()}, blocks=(web("a", ("out", names[99], "o")), web("b")), calls=calls)


class AsWritten(unittest.TestCase):
    """Random configurations, against what follows word by word from the document."""

    def expression(self, chance, names):
        one = chance.choice(names)
        return one if chance.random() < 0.8 else ("tuple", (one, chance.choice(names)))

    def config(self, chance, depth):
        blocks = [(chance.choice("ab"),) for _ in range(chance.randint(0, 2))]
        names = sorted({name for name, in blocks})
        calls = chance.sample("cd", chance.randint(0, 2)) if depth else []
        inner = {name: self.config(chance, depth - 1) for name in calls}
        words = [ONE, ONE, ("param", "p")] + [of(name) for name in names]
        words += [("out", name, "o") for name in calls]
        afters = [("web", name) for name in names] + calls

        def after():
            return tuple(chance.sample(afters, 1)) if afters and chance.random() < 0.25 else ()

        blocks = [web(name, self.expression(chance, words), after=after()) for name in names]
        called = [Call(name, inner[name], {"p": self.expression(chance, words)}, after=after()) for name in calls]
        outputs = (("o", self.expression(chance, words)),)
        return Config(params=("p",), blocks=tuple(blocks), calls=tuple(called), outputs=outputs)

    def edges(self, config, path, outer, behind):
        """All (node, node) by which one refers to the other, arguments and outputs by (path of the call, name)."""
        inside = {}

        def named(expression):
            if expression[0] == "tuple":
                return [node for one in expression[1] for node in named(one)]
            if expression[0] == "of":
                return [(path, *expression[1:3])]
            if expression[0] == "out":
                return [((*path, expression[1]), "o")]
            return [(path, "p")] if expression[0] == "param" and path else []

        def meant(after):
            found = []
            for one in after:
                found += [(path, *one)] if isinstance(one, tuple) else all_in((*path, one), inside[one])
            return found

        def all_in(at, inner):
            here = [(at, block.kind, block.name) for block in inner.blocks]
            return here + [one for call in inner.calls for one in all_in((*at, call.name), call.config)]

        inside.update({call.name: call.config for call in config.calls})
        rows = []
        for block in config.blocks:
            for node in named(block.attributes["title"]) + meant(block.after) + behind:
                rows.append(((path, block.kind, block.name), node))
            rows.append(((path, block.kind, block.name), None))
        for call in config.calls:
            rows += [(((*path, call.name), "p"), node) for node in named(call.arguments["p"])]
            rows += self.edges(call.config, (*path, call.name), config, behind + meant(call.after))
        if path:
            rows += [((path, "o"), node) for node in named(config.outputs[0][1])]
        return rows

    def expected(self, config):
        rows = self.edges(config, (), None, [])
        nodes = sorted({node for row in rows for node in row if node}, key=repr)
        direct = {node: {other for one, other in rows if one == node and other} for node in nodes}
        reach = {node: set(direct[node]) for node in nodes}
        for _ in nodes:
            reach = {node: reach[node].union(*[reach[other] for other in reach[node]]) for node in nodes}
        wrong = [node if len(node) == 3 else (node[0][:-1], "", node[0][-1]) for node in nodes if node in reach[node]]
        if wrong:
            return min(wrong), "ring"
        # By arguments and outputs alone.
        through = {node: set(direct[node]) for node in nodes}
        for _ in nodes:
            for node in nodes:
                through[node] = through[node].union(*[direct[other] for other in through[node] if len(other) == 2])
        return {
            node: tuple(sorted(other for other in through[node] if len(other) == 3)) for node in nodes if len(node) == 3
        }

    def test_random_ones(self):
        chance = random.Random(5)
        rings = 0
        for _ in range(1500):
            config = self.config(chance, 2)
            expected = self.expected(config)
            try:
                found = needs(config, KINDS)
            except BadConfig as error:
                found = error.at, error.why
                rings += 1
            self.assertEqual(found, expected)
        self.assertTrue(150 < rings < 1350, rings)


if __name__ == "__main__":
    unittest.main()
