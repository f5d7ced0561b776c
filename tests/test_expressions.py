"""Points 1.2 and 1.3: expressions and what they come to."""

import copy
import itertools
import unittest

from planfirst.errors import Misfit
from planfirst.expressions import reckon
from planfirst.values import Unknown, agrees, is_known

U = Unknown()
TAG = ("#", "net", 1)
ONE, TWO = ("say", 1), ("say", 2)
P, Q = ("param", "p"), ("param", "q")
MISSING = ("param", "missing")

NAMES = {
    ("param", "p"): "ten",
    ("param", "u"): U,
    ("param", "t"): (1, U),
    ("param", "m"): {"a": 1, "b": U},
    ("own", "key"): "left",
    ("own", "value"): {"a": 1},
    ("own", "index"): 0,
    ("call", "sub"): {"x": 1, "y": U, "z": (U,)},
    ("call", "late"): U,
    ("block", "net", "main"): {"id": TAG, "range": "ten", "open": U, "tags": (1, U)},
    ("block", "net", "late"): U,
    ("block", "web", "many"): ({"id": TAG, "n": 0}, {"id": U, "n": 1}),
    ("block", "web", "part"): ({"id": TAG, "n": 0}, U),
    ("block", "web", "none"): (),
    ("block", "web", "keys"): {"a": {"id": TAG, "n": 0}, "b": {"id": U, "n": 1}},
    ("block", "web", "some"): {"a": U, "b": {"id": U, "n": 1}},
    ("block", "web", "bare"): {},
}

# Known values by sorts, and things that are no values at all.
SORTS = {
    "none": (None,),
    "bool": (True, False),
    "integer": (0, 1, -1, 10 ** 20),
    "text": ("", "a", "x"),
    "tag": (TAG, ("#", "net", 2)),
    "tuple": ((), (1,), (U,), (U, U, U), ("#", "net", U), ("#", "net", 0), ("#", "net", True), ((), {})),
    "map": ({}, {"a": 1}, {"a": U}),
    "other": (1.0, b"a", [], [1], frozenset(), object(), Unknown, range(2), 1j, len, Ellipsis),
}


def of_sorts(*words):
    return [value for word in words for value in SORTS[word]]


def all_but(*words):
    return [value for word in SORTS if word not in words for value in SORTS[word]]


class Case(unittest.TestCase):
    def comes_to(self, expression, value, names=NAMES):
        with self.subTest(expression=expression):
            found = reckon(expression, names)
            self.assertEqual(repr(found), repr(value))
            self.assertEqual(found, value)

    def misfits(self, expression, named=NAMES, names=NAMES):
        """Whether it raises Misfit of the named expression, or of the whole one if none is named."""
        with self.subTest(expression=expression):
            with self.assertRaises(Misfit) as caught:
                reckon(expression, names)
            self.assertIs(caught.exception.expression, expression if named is NAMES else named)


class Names(Case):
    def test_say(self):
        for value in [*of_sorts("none", "bool", "integer", "text", "tag"), (), (1,), {}, {"b": 1, "a": {"c": (2,)}}]:
            self.comes_to(("say", value), value)

    def test_param_and_own(self):
        self.comes_to(("param", "p"), "ten")
        self.comes_to(("param", "u"), U)
        self.comes_to(("param", "t"), (1, U))
        self.comes_to(("param", "m"), {"a": 1, "b": U})
        self.comes_to(("own", "key"), "left")
        self.comes_to(("own", "value"), {"a": 1})
        self.comes_to(("own", "index"), 0)
        self.misfits(("param", "none"))
        self.misfits(("param", "key"))
        self.misfits(("own", "p"))
        for word in ("key", "value", "index"):
            self.misfits(("own", word), names={})

    def test_out(self):
        self.comes_to(("out", "sub", "x"), 1)
        self.comes_to(("out", "sub", "y"), U)
        self.comes_to(("out", "sub", "z"), (U,))
        self.comes_to(("out", "late", "x"), U)
        self.misfits(("out", "sub", "w"))
        self.misfits(("out", "none", "x"))
        for value in all_but("map"):
            self.misfits(("out", "odd", "x"), names={("call", "odd"): value})

    def test_of(self):
        self.comes_to(("of", "net", "main", "id"), TAG)
        self.comes_to(("of", "net", "main", "range"), "ten")
        self.comes_to(("of", "net", "main", "open"), U)
        self.comes_to(("of", "net", "main", "tags"), (1, U))
        self.comes_to(("of", "net", "late", "id"), U)
        self.misfits(("of", "net", "main", "none"))
        self.misfits(("of", "net", "none", "id"))
        self.misfits(("of", "web", "main", "id"))
        self.misfits(("of", "web", "many", "id"))
        for value in all_but("map"):
            self.misfits(("of", "net", "odd", "id"), names={("block", "net", "odd"): value})

    def test_at_an_index(self):
        self.comes_to(("at", "web", "many", ("say", 0), "id"), TAG)
        self.comes_to(("at", "web", "many", ("say", 1), "n"), 1)
        self.comes_to(("at", "web", "many", ("own", "index"), "n"), 0)
        self.comes_to(("at", "web", "many", ("say", 1), "id"), U)
        self.comes_to(("at", "web", "part", ("say", 0), "n"), 0)
        self.comes_to(("at", "web", "part", ("say", 1), "n"), U)
        self.comes_to(("at", "web", "part", ("say", 1), "none"), U)
        for place in (-1, 2, 10 ** 20, *all_but("integer")):
            self.misfits(("at", "web", "many", ("say", place), "id"))
        for place in (0, -1):
            self.misfits(("at", "web", "none", ("say", place), "id"))
        self.misfits(("at", "web", "many", ("say", 0), "none"))
        self.misfits(("at", "web", "gone", ("say", 0), "id"))

    def test_at_a_key(self):
        self.comes_to(("at", "web", "keys", ("say", "a"), "id"), TAG)
        self.comes_to(("at", "web", "keys", ("say", "b"), "id"), U)
        self.comes_to(("at", "web", "some", ("say", "a"), "n"), U)
        self.comes_to(("at", "web", "some", ("say", "b"), "n"), 1)
        for place in ("c", "", *all_but("text")):
            self.misfits(("at", "web", "keys", ("say", place), "id"))
        self.misfits(("at", "web", "bare", ("say", "a"), "id"))
        self.misfits(("at", "web", "keys", ("say", "a"), "none"))

    def test_at_what_is_not_known(self):
        for name in ("many", "part", "none", "keys", "some", "bare"):
            self.comes_to(("at", "web", name, ("param", "u"), "id"), U)
        for place in (("say", 0), ("say", 99), ("say", "a"), ("param", "u")):
            self.comes_to(("at", "net", "late", place, "id"), U)
        for place in (-1, *all_but("text", "integer")):
            self.misfits(("at", "net", "late", ("say", place), "id"))

    def test_at_something_else(self):
        for value in all_but("tuple", "map"):
            for place in (("say", 0), ("say", "a"), ("param", "u")):
                self.misfits(("at", "a", "b", place, "id"), names={("block", "a", "b"): value, ("param", "u"): U})
        for value in all_but("map"):
            names = {("block", "a", "b"): (value,), ("block", "a", "c"): {"k": value}}
            self.misfits(("at", "a", "b", ("say", 0), "id"), names=names)
            self.misfits(("at", "a", "c", ("say", "k"), "id"), names=names)

    def test_each(self):
        self.comes_to(("each", "web", "many", "n"), (0, 1))
        self.comes_to(("each", "web", "many", "id"), (TAG, U))
        self.comes_to(("each", "web", "part", "n"), (0, U))
        self.comes_to(("each", "web", "none", "n"), ())
        self.comes_to(("each", "web", "keys", "n"), {"a": 0, "b": 1})
        self.comes_to(("each", "web", "some", "n"), {"a": U, "b": 1})
        self.comes_to(("each", "web", "bare", "n"), {})
        self.comes_to(("each", "net", "late", "n"), U)
        self.misfits(("each", "web", "many", "none"))
        self.misfits(("each", "web", "part", "none"))
        self.misfits(("each", "web", "keys", "none"))
        self.misfits(("each", "web", "gone", "n"))
        self.misfits(("each", "net", "main", "id"))
        for value in all_but("tuple", "map"):
            self.misfits(("each", "a", "b", "id"), names={("block", "a", "b"): value})
        for value in all_but("map"):
            self.misfits(("each", "a", "b", "id"), names={("block", "a", "b"): ({"id": 1}, value)})
            self.misfits(("each", "a", "b", "id"), names={("block", "a", "b"): {"x": {"id": 1}, "y": value}})


class Builders(Case):
    def test_tuple(self):
        self.comes_to(("tuple", ()), ())
        self.comes_to(("tuple", (ONE, P, ("param", "u"))), (1, "ten", U))
        self.comes_to(("tuple", (("tuple", (ONE,)), ("map", ()))), ((1,), {}))
        self.comes_to(("tuple", (("say", "#"), ("say", "net"), ONE)), TAG)

    def test_map(self):
        self.comes_to(("map", ()), {})
        self.comes_to(("map", (("b", ONE), ("a", ("param", "u")), ("", P))), {"b": 1, "a": U, "": "ten"})

    def test_join(self):
        self.comes_to(("join", ()), "")
        self.comes_to(("join", (P,)), "ten")
        self.comes_to(("join", (("say", ""), P, ("say", "-"), ONE)), "ten-1")
        for number in (0, 7, -7, 10 ** 30, -10 ** 30):
            self.comes_to(("join", (("say", number), ("say", "|"))), f"{number}|")
        self.comes_to(("join", (ONE, ("param", "u"))), U)
        self.comes_to(("join", (("param", "u"), ONE)), U)

    def test_join_of_other_sorts(self):
        for value in all_but("text", "integer"):
            for items in ((("say", value),), (P, ("say", value)), (("param", "u"), ("say", value)),
                          (("say", value), ("param", "u"))):
                self.misfits(("join", items))


class Choices(Case):
    def test_if(self):
        self.comes_to(("if", ("say", True), ONE, TWO), 1)
        self.comes_to(("if", ("say", False), ONE, TWO), 2)
        self.comes_to(("if", ("say", True), ("param", "u"), TWO), U)
        self.comes_to(("if", ("say", False), ONE, ("param", "t")), (1, U))

    def test_if_reckons_only_the_taken_one(self):
        self.comes_to(("if", ("say", True), ONE, MISSING), 1)
        self.comes_to(("if", ("say", False), MISSING, TWO), 2)
        self.misfits(("if", ("say", True), MISSING, TWO), MISSING)
        self.misfits(("if", ("say", False), ONE, MISSING), MISSING)

    def test_if_not_known(self):
        unknown = ("param", "u")
        self.comes_to(("if", unknown, ONE, ("say", 1)), 1)
        self.comes_to(("if", unknown, ONE, TWO), U)
        self.comes_to(("if", unknown, ONE, ("say", True)), U)
        self.comes_to(("if", unknown, ("say", {"a": 1, "b": 2}), ("say", {"b": 2, "a": 1})), {"a": 1, "b": 2})
        self.comes_to(("if", unknown, ("param", "t"), ("param", "t")), U)
        self.comes_to(("if", unknown, unknown, unknown), U)
        self.comes_to(("if", unknown, ONE, unknown), U)
        self.misfits(("if", unknown, MISSING, TWO), MISSING)
        self.misfits(("if", unknown, ONE, MISSING), MISSING)
        one, other = ("param", "first"), ("param", "second")
        self.misfits(("if", unknown, one, other), one)

    def test_if_unknown_of_a_tag_and_a_tuple_that_could_become_it(self):
        unknown = ("param", "u")
        could_be_tag = ("tuple", (("say", "#"), ("say", "net"), unknown))
        for one, other in itertools.product((could_be_tag, ("say", TAG)), (could_be_tag, ("say", TAG))):
            value = TAG if one == other == ("say", TAG) else U
            self.comes_to(("if", unknown, one, other), value)
            self.comes_to(("if", ("same", one, unknown), one, other), value)
        self.comes_to(("if", ("same", could_be_tag, ("say", TAG)), ONE, TWO), 2)

    def test_if_of_another_sort(self):
        for value in all_but("bool"):
            self.misfits(("if", ("say", value), ONE, TWO))
            self.misfits(("if", ("say", value), MISSING, MISSING))

    def test_same(self):
        unknown = ("param", "u")
        self.comes_to(("same", ONE, ("say", 1)), True)
        self.comes_to(("same", ONE, ("say", True)), False)
        self.comes_to(("same", P, ("say", "ten")), True)
        self.comes_to(("same", ("say", {"a": 1, "b": 2}), ("say", {"b": 2, "a": 1})), True)
        self.comes_to(("same", unknown, ONE), U)
        self.comes_to(("same", unknown, unknown), U)
        self.comes_to(("same", ("param", "t"), ("say", (1, 2))), U)
        self.comes_to(("same", ("param", "t"), ("say", (2, 2))), False)
        self.comes_to(("same", ("param", "t"), ("say", (1,))), False)
        self.comes_to(("same", ("of", "net", "main", "id"), ("say", TAG)), True)
        could_be_tag = ("tuple", (("say", "#"), ("say", "net"), unknown))
        self.comes_to(("same", could_be_tag, ("say", TAG)), False)
        self.comes_to(("same", ("say", TAG), could_be_tag), False)
        self.comes_to(("same", could_be_tag, ("tuple", (("say", "#"), unknown, ONE))), U)


class Items(Case):
    def test_size(self):
        for value, number in (
            ((), 0), ((1,), 1), ((1, U), 2), ((U, U, U), 3), ({}, 0), ({"a": U}, 1), ({"a": 1, "b": 2}, 2), ("", 0),
            ("ten", 3), ("\u00e9", 1), (("#", "net", U), 3), (("#", "net", 0), 3), (U, U),
        ):
            self.comes_to(("size", P), number, {("param", "p"): value})

    def test_size_of_another_sort(self):
        for value in all_but("text", "tuple", "map"):
            self.misfits(("size", ("say", value)))
        self.misfits(("size", ("tuple", (("say", "#"), ("say", "net"), ONE))))

    def test_pick_of_a_tuple(self):
        for place, value in ((0, "a"), (1, U), (2, {"k": 1})):
            self.comes_to(("pick", P, ("say", place)), value, {("param", "p"): ("a", U, {"k": 1})})
        self.comes_to(("pick", ("tuple", (("say", "#"), ("say", "net"), ("param", "u"))), ("say", 1)), "net")
        self.comes_to(("pick", ("say", (1, 2)), ("param", "u")), U)
        self.comes_to(("pick", ("say", ()), ("param", "u")), U)
        for place in (-1, -2, 2, 3, *all_but("integer")):
            self.misfits(("pick", ("say", (1, 2)), ("say", place)))
            self.misfits(("pick", ("param", "t"), ("say", place)))
        self.misfits(("pick", ("say", ()), ("say", 0)))

    def test_pick_of_a_map(self):
        for place, value in (("a", 1), ("b", U), ("", None)):
            self.comes_to(("pick", P, ("say", place)), value, {("param", "p"): {"a": 1, "b": U, "": None}})
        self.comes_to(("pick", ("say", {"a": 1}), ("param", "u")), U)
        self.comes_to(("pick", ("say", {}), ("param", "u")), U)
        for place in ("c", "", *all_but("text")):
            self.misfits(("pick", ("say", {"a": 1}), ("say", place)))

    def test_pick_of_what_is_not_known(self):
        unknown = ("param", "u")
        for place in (("say", 0), ("say", 99), ("say", ""), ("say", "a"), unknown):
            self.comes_to(("pick", unknown, place), U)
        for place in (-1, *all_but("integer", "text")):
            self.misfits(("pick", unknown, ("say", place)))

    def test_pick_of_another_sort(self):
        for value in all_but("tuple", "map"):
            for place in (("say", 0), ("say", "a"), ("param", "u")):
                self.misfits(("pick", ("say", value), place))


class Misfits(Case):
    def test_the_innermost_one(self):
        inner = ("size", ("say", None))
        for outer in (
            ("size", inner), ("pick", inner, ONE), ("pick", ("say", ()), inner), ("same", inner, ONE),
            ("same", ONE, inner), ("join", (inner,)), ("tuple", (ONE, inner)), ("map", (("a", ONE), ("b", inner))),
            ("if", inner, ONE, TWO), ("at", "web", "many", inner, "id"), ("at", "web", "gone", inner, "id"),
            ("size", ("size", ("size", inner))),
        ):
            self.misfits(outer, inner)

    def test_parts_come_ahead_of_what_they_are_in(self):
        inner = ("size", ONE)
        self.misfits(("join", (("say", None), inner)), inner)
        self.misfits(("pick", ("say", None), inner), inner)
        self.misfits(("at", "net", "main", inner, "none"), inner)

    def test_the_first_from_left_to_right(self):
        one, other = ("param", "first"), ("param", "second")
        for outer in (
            ("tuple", (ONE, one, other)), ("join", (one, other)), ("map", (("b", one), ("a", other))),
            ("same", one, other), ("pick", one, other), ("if", one, other, other), ("if", ("param", "u"), one, other),
            ("tuple", (("size", one), other)), ("tuple", (("size", ("size", one)), ("size", other))),
        ):
            self.misfits(outer, one)

    def test_an_operation_that_fits_is_not_named(self):
        wrong = ("size", ("tuple", (("say", "#"), ("say", "net"), ONE)))
        self.misfits(("tuple", (("size", ("say", ())), wrong)), wrong)

    def test_what_is_no_expression(self):
        for thing in (
            None, True, 0, 1.0, "say", b"say", [], ["say", 1], {}, (), ("say",), ("say", 1, 2), ("none", 1), (1, 2),
            (None,), ([], 1), ("param",), ("param", []), ("own", None), ("out", "sub"), ("of", "net", "main"),
            ("at", "web", "many", "id"), ("each", "web", "many"), ("tuple", [ONE]), ("tuple", None), ("join", ONE[0]),
            ("out", 1, "x"), ("out", "sub", []), ("of", [], "main", "id"), ("of", "net", {}, "id"),
            ("of", "net", "main", []),
            ("at", {}, "many", ONE, "id"), ("at", "web", [], ONE, "id"), ("at", "web", "many", ONE, {}),
            ("each", [], "many", "n"), ("each", "web", [], "n"), ("each", "web", "many", []), ("own", {}),
            ("map", {"a": ONE}), ("map", [("a", ONE)]), ("map", (("a",),)), ("map", ((1, ONE),)), ("map", (5,)),
            ("if", ONE, ONE), ("same", ONE),
            ("size",), ("pick", ONE), Unknown(), Unknown, object(), len,
        ):
            self.misfits(thing)
            self.misfits(("tuple", (ONE, thing)), thing)


class Deep(Case):
    """201 expressions, each but the first with another one inside."""

    def nested(self, leaf, wrap, depth=201):
        expression = leaf
        for _ in range(depth - 1):
            expression = wrap(expression)
        return expression

    def test_each_form(self):
        yes, no = ("say", True), ("say", False)
        names = {("param", "u"): U, ("block", "web", "many"): ({"n": 0}, {"n": 1})}
        for leaf, wrap, value in (
            (ONE, lambda e: ("if", yes, e, TWO), 1),
            (ONE, lambda e: ("if", no, TWO, e), 1),
            (yes, lambda e: ("if", e, yes, no), True),
            (ONE, lambda e: ("if", ("param", "u"), ONE, e), 1),
            (ONE, lambda e: ("if", ("param", "u"), e, ONE), 1),
            (yes, lambda e: ("same", e, yes), True),
            (yes, lambda e: ("same", yes, e), True),
            (ONE, lambda e: ("join", (e, ("say", ""))), "1"),
            (ONE, lambda e: ("pick", ("say", (5, 1)), e), 1),
            (ONE, lambda e: ("at", "web", "many", e, "n"), 1),
            (("param", "u"), lambda e: ("size", e), U),
            (("param", "u"), lambda e: ("pick", e, ONE), U),
            (ONE, lambda e: ("if", ("same", e, ONE), ONE, TWO), 1),
        ):
            for depth in (201, 250):
                found = reckon(self.nested(leaf, wrap, depth), names)
                self.assertEqual(repr(found), repr(value))

    def test_built_and_picked(self):
        for wrap in (
            lambda e: ("pick", ("tuple", (ONE, e)), ONE),
            lambda e: ("pick", ("map", (("a", e),)), ("say", "a")),
        ):
            self.assertEqual(reckon(self.nested(TWO, wrap, 101), {}), 2)

    def test_the_innermost_misfit(self):
        for wrap in (
            lambda e: ("size", e), lambda e: ("tuple", (ONE, e)), lambda e: ("map", (("a", e),)),
            lambda e: ("if", ("say", False), TWO, e), lambda e: ("pick", e, ONE), lambda e: ("join", (ONE, e)),
        ):
            self.misfits(self.nested(MISSING, wrap), MISSING)

    def test_values_eight_deep(self):
        value, expression = 1, ONE
        for level in range(8):
            value = {"a": value} if level % 2 else (value, U)
            expression = ("map", (("a", expression),)) if level % 2 else ("tuple", (expression, ("param", "u")))
        self.comes_to(expression, value)
        self.comes_to(P, value, {("param", "p"): value})


class Fresh(Case):
    def maps_in(self, value):
        if isinstance(value, dict):
            return [value, *[deeper for part in value.values() for deeper in self.maps_in(part)]]
        if isinstance(value, tuple):
            return [deeper for part in value for deeper in self.maps_in(part)]
        return []

    def test_every_map_is_new(self):
        value = {"a": ({"b": {}}, U), "c": {"d": 1}}
        names = {
            ("param", "p"): value, ("own", "value"): value, ("call", "sub"): {"x": value},
            ("block", "net", "main"): {"x": value}, ("block", "net", "many"): ({"x": value}, {"x": value}),
            ("block", "net", "keys"): {"k": {"x": value}}, ("param", "u"): U, ("param", "t"): (value, value),
        }
        known = {"a": ({"b": {}},)}
        passed = {id(one) for thing in [*names.values(), known] for one in self.maps_in(thing)}
        for expression in (
            ("say", known), ("param", "p"), ("own", "value"), ("out", "sub", "x"), ("of", "net", "main", "x"),
            ("at", "net", "many", ONE, "x"), ("each", "net", "many", "x"), ("each", "net", "keys", "x"), ("param", "t"),
            ("tuple", (P, P)), ("map", (("a", P), ("b", ("say", known)))), ("if", ("say", True), P, ONE),
            ("if", ("param", "u"), ("say", known), ("say", known)), ("pick", ("param", "t"), ONE),
        ):
            with self.subTest(expression=expression):
                maps = self.maps_in(reckon(expression, names))
                self.assertTrue(maps)
                self.assertFalse(passed & {id(one) for one in maps})
                self.assertEqual(len(maps), len({id(one) for one in maps}))
                again = self.maps_in(reckon(expression, names))
                self.assertFalse({id(one) for one in again} & {id(one) for one in maps})

    def test_a_changed_answer_changes_nothing_else(self):
        names = {("param", "p"): {"a": {"b": 1}}}
        expression = ("map", (("x", P), ("y", ("say", {"c": 2}))))
        found = reckon(expression, names)
        found["x"]["a"]["b"] = found["y"]["c"] = 9
        self.assertEqual(names, {("param", "p"): {"a": {"b": 1}}})
        self.assertEqual(reckon(expression, names), {"x": {"a": {"b": 1}}, "y": {"c": 2}})


# Expressions of all forms over p and q, of which no tuple can become a Tag.
OVER = (
    P, ("tuple", (P, Q)), ("map", (("a", P), ("b", Q))), ("join", (P, ("say", "-"), Q)), ("if", P, Q, ONE),
    ("if", P, ONE, Q), ("if", P, ONE, ("say", 1)), ("same", P, Q), ("same", ("tuple", (P, ONE)), ("tuple", (ONE, Q))),
    ("size", P), ("size", ("tuple", (P, Q))), ("pick", P, Q), ("pick", ("tuple", (P, Q)), ONE),
    ("pick", ("tuple", (ONE, TWO)), P),
    ("pick", ("map", (("a", P),)), Q), ("if", ("same", P, Q), P, Q), ("if", ("same", P, ONE), ("size", Q), ONE),
    ("join", (("if", P, Q, Q),)), ("size", ("join", (P, Q))), ("out", "sub", "x"), ("of", "net", "main", "x"),
    ("each", "net", "many", "x"), ("size", ("each", "net", "many", "x")), ("at", "net", "many", Q, "x"),
    ("at", "net", "keys", Q, "x"), ("at", "net", "open", Q, "x"), ("each", "net", "open", "x"),
    ("of", "net", "open", "x"), ("pick", ("each", "net", "keys", "x"), Q),
    ("if", ("same", ("each", "net", "many", "x"), Q), P, P),
)
VALUES = (None, True, False, 0, 1, -1, "", "a", TAG, (), (1,), (1, 1), {"a": 1}, {"x": "a"})
PLANNED = (*VALUES, U, (U,), (U, 1), {"a": U}, {"x": U})


def fillings(value):
    """What comes of a value with at most one Unknown."""
    if isinstance(value, Unknown):
        return list(VALUES)
    if isinstance(value, tuple) and not is_known(value):
        return [(part, *value[1:]) for part in VALUES]
    if isinstance(value, dict) and not is_known(value):
        return [{key: part for key in value} for part in VALUES]
    return [value]


def names_of(p, q):
    return {
        ("param", "p"): p, ("param", "q"): q, ("call", "sub"): {"x": p}, ("block", "net", "main"): {"x": p},
        ("block", "net", "many"): ({"x": p}, {"x": q}), ("block", "net", "keys"): {"a": {"x": p}},
        ("block", "net", "open"): p,
    }


def outcome(expression, names):
    try:
        return "value", reckon(expression, names)
    except Misfit as error:
        return "misfit", error.expression


class KnownValuesAreRight(Case):
    def test_for_all_fillings(self):
        for p, q in itertools.product(PLANNED, PLANNED):
            filled = [names_of(*both) for both in itertools.product(fillings(p), fillings(q))]
            for expression in OVER:
                word, planned = outcome(expression, names_of(p, q))
                if word == "misfit" or isinstance(planned, Unknown):
                    continue
                for names in filled:
                    word, value = outcome(expression, names)
                    if word == "value" and not agrees(planned, value):
                        self.fail(f"{expression} came to {planned}, then with {names} to {value}")

    def test_a_misfit_stays_one(self):
        for p, q in itertools.product(PLANNED, PLANNED):
            filled = [names_of(*both) for both in itertools.product(fillings(p), fillings(q))]
            for expression in OVER:
                # With c unknown both branches are reckoned, so a Misfit there need not stay.
                if expression[0] != "if" and outcome(expression, names_of(p, q))[0] == "misfit":
                    for names in filled:
                        self.assertEqual(outcome(expression, names)[0], "misfit", (expression, names))

    def test_a_tuple_that_becomes_a_tag(self):
        tag = ("tuple", (("say", "#"), ("say", "net"), P))
        self.comes_to(("size", tag), 3, {("param", "p"): U})
        self.comes_to(("size", tag), 3, {("param", "p"): 0})
        self.misfits(("size", tag), names={("param", "p"): 1})
        self.comes_to(("pick", tag, ("say", 2)), U, {("param", "p"): U})
        self.misfits(("pick", tag, ("say", 2)), names={("param", "p"): 1})


class Passed(Case):
    def test_nothing_is_changed(self):
        for p, q in itertools.product(PLANNED, PLANNED):
            names = names_of(p, q)
            before = repr(names)
            for expression in OVER:
                outcome(expression, names)
            self.assertEqual(repr(names), before)
        before = repr(NAMES), copy.deepcopy(NAMES)
        said = ("tuple", (("say", {"b": ({"a": 1},)}), ("param", "m"), ("each", "web", "keys", "id")))
        told = repr(said)
        reckon(said, NAMES)
        self.assertEqual((repr(NAMES), NAMES), before)
        self.assertEqual(repr(said), told)


class Examples(unittest.TestCase):
    def test_e12(self):
        e = ('size', ('tuple', (('param', 'p'), ('say', 1))))
        unknown = {('param', 'p'): Unknown()}
        self.assertEqual(
            [reckon(e, unknown), reckon(('join', (('param', 'p'), ('say', 'x'))), unknown) == Unknown()], [2, True],
        )


if __name__ == "__main__":
    unittest.main()
