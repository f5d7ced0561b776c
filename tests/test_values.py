"""Point 1.1: values, Unknowns, is_known, agrees, same."""

import copy
import itertools
import unittest

from planfirst.values import Unknown, agrees, is_integer, is_known, is_name, is_tag, same

U = Unknown()
TAG = ("#", "net", 1)

# Known values of all sorts, each one unlike all others.
KNOWN = (
    None, True, False, 0, 1, -1, 10 ** 30, "", "1", "a", "None", "#",
    ("#", "net", 1), ("#", "net", 2), ("#", "web", 1), ("#", "abcdefghijkl", 1),
    # Tuples of values that only look like Tags.
    ("#", "net", 0), ("#", "net", -1), ("#", "net", True), ("#", "net", "1"), ("#", "", 1), ("#", "Net", 1),
    ("#", "n1", 1), ("#", "abcdefghijklm", 1), ("#", "net"), ("#", "net", 1, 1), ("", "net", 1), (("#", "net", 1),),
    (), (None,), (1,), (True,), (0,), (False,), (1, 2), (2, 1), ((),), ((1,), (1,)), ("a",),
    {}, {"a": 1}, {"a": True}, {"b": 1}, {"a": 1, "b": 2}, {"a": 2, "b": 1}, {"": None}, ({},), {"a": {}}, {"a": ()},
)


def form(value):
    """The value, written so that == and repr tell sorts apart and keys have one order."""
    if isinstance(value, tuple):
        return "tuple", tuple(form(part) for part in value)
    if isinstance(value, dict):
        return "map", tuple(sorted((key, form(part)) for key, part in value.items()))
    return type(value).__name__, repr(value)


def fillings(value, pool, as_tag=True):
    """All known values that come of it; as_tag tells whether a tuple may become a Tag by them."""
    if isinstance(value, Unknown):
        yield from pool
    elif isinstance(value, tuple):
        for parts in itertools.product(*[list(fillings(part, pool, as_tag)) for part in value]):
            if as_tag or not is_tag(parts) or form(parts) == form(value):
                yield parts
    elif isinstance(value, dict):
        for parts in itertools.product(*[list(fillings(part, pool, as_tag)) for part in value.values()]):
            yield dict(zip(value, parts))
    else:
        yield value


def filled_forms(value, pool):
    """The forms of all that comes of it; in them a Tag is unlike a tuple that was filled with its parts."""
    if isinstance(value, Unknown):
        return [found for known in pool for found in filled_forms(known, pool)]
    if is_tag(value):
        return [("tag", value)]
    if isinstance(value, tuple):
        parts = [filled_forms(part, pool) for part in value]
        return [("tuple", *filled) for filled in itertools.product(*parts)]
    if isinstance(value, dict):
        parts = [[(key, found) for found in filled_forms(value[key], pool)] for key in sorted(value)]
        return [("map", *filled) for filled in itertools.product(*parts)]
    return [form(value)]


def all_parts(value):
    """The value, its parts, theirs, and so on."""
    parts = value if isinstance(value, tuple) else value.values() if isinstance(value, dict) else ()
    return [value, *[deeper for part in parts for deeper in all_parts(part)]]


# Small patterns, known ones and others.
PATTERNS = (
    None, True, 1, "a", TAG, ("#", "net", 2), ("#", "net", True), (), (1,), (True,), (2, 1), {}, {"a": 1}, {"a": True},
    {"b": 1}, {"b": 2, "a": 1}, ((1,),), (TAG,), {"a": TAG}, U, (U,), (U, 1), (1, U), (U, U), (U, True), (U, 2),
    ("#", "net", U), ("#", U, 1), (U, "net", 1), (U, "web", 1), ("#", "net", 1, U), {"a": U}, {"b": U},
    {"a": U, "b": 2}, {"b": U, "a": 1}, {"a": U, "b": 1}, ((U,),), ((U,), U), (("#", "net", U),), {"a": (U,)},
    {"a": ("#", "net", U)}, {"a": {"a": U}},
)

# What is put for their Unknowns: the parts that some pattern has there, and a filling of each pattern (with 0, by
# which none becomes a Tag).
POOL = (
    "#", "net", "web", 0, 2, *[value for value in PATTERNS if is_known(value)],
    *[next(fillings(value, (0,))) for value in PATTERNS if not is_known(value)],
)


class Sorts(unittest.TestCase):
    def test_integers(self):
        for thing in (0, 1, -5, 10 ** 40):
            self.assertIs(is_integer(thing), True)
        for thing in (True, False, None, 1.0, "1", (1,), [1], U):
            self.assertIs(is_integer(thing), False)

    def test_names(self):
        for thing in ("a", "z", "net", "abcdefghijkl"):
            self.assertIs(is_name(thing), True)
        for thing in ("", "abcdefghijklm", "A", "a1", "a b", "a_b", "\u00e9", "a\n", None, 1, ("a",), ["a"], b"a", U):
            self.assertIs(is_name(thing), False)

    def test_tags(self):
        for thing in (TAG, ("#", "a", 1), ("#", "abcdefghijkl", 10 ** 9)):
            self.assertIs(is_tag(thing), True)
        for thing in (
            ("#", "net", 0), ("#", "net", True), ("#", "net", 1.0), ("#", "Net", 1), ("#", "", 1), ("#", 1, 1),
            ("#", "net"), ("#", "net", 1, 1), ["#", "net", 1], ("", "net", 1), (U, "net", 1), ("#", U, 1),
            ("#", "net", U), (), "#", None, U,
        ):
            self.assertIs(is_tag(thing), False)


class Unknowns(unittest.TestCase):
    def test_equal_as_objects(self):
        self.assertTrue(Unknown() == Unknown())
        self.assertFalse(Unknown() != Unknown())
        self.assertEqual((1, Unknown()), (1, Unknown()))
        self.assertEqual({"a": Unknown()}, {"a": Unknown()})

    def test_unlike_everything_else(self):
        for thing in (*KNOWN, Unknown, object(), "Unknown()", NotImplemented):
            self.assertFalse(Unknown() == thing)
            self.assertFalse(thing == Unknown())
            self.assertTrue(Unknown() != thing)

    def test_made_of_nothing(self):
        self.assertRaises(TypeError, Unknown, 1)

    def test_shown_as_it_is_made(self):
        self.assertEqual(repr((1, Unknown())), "(1, Unknown())")

    def test_never_taken_for_one(self):
        one = Unknown()
        for left, right in ((one, one), ((one,), (one,)), ({"a": one}, {"a": one})):
            self.assertEqual(same(left, right), Unknown())


class IsKnown(unittest.TestCase):
    def test_known_values(self):
        for value in KNOWN:
            with self.subTest(value=value):
                self.assertIs(is_known(value), True)
                self.assertIs(is_known((value, {"a": value})), True)

    def test_unknown_in_any_part(self):
        for value in (
            U, (U,), (1, U), (U, 1), ("#", "net", U), ("#", U, 1), (U, "net", 1), ((), (U,)), {"a": U},
            {"a": 1, "b": U}, {"a": (1, {"b": U})}, ({"a": ()}, {"a": U}),
        ):
            with self.subTest(value=value):
                self.assertIs(is_known(value), False)
                self.assertIs(is_known((value,)), False)
                self.assertIs(is_known({"a": 1, "z": value}), False)

    def test_eight_deep(self):
        for leaf, answer in ((1, True), (U, False)):
            self.assertIs(is_known(eight_deep(leaf)), answer)


def eight_deep(leaf):
    value = leaf
    for level in range(8):
        value = {"a": 0, "b": value} if level % 2 else (0, value)
    return value


class Agrees(unittest.TestCase):
    def test_known_ones_agree_if_they_are_the_same(self):
        for one, other in itertools.product(KNOWN, KNOWN):
            with self.subTest(one=one, other=other):
                self.assertIs(agrees(one, other), form(one) == form(other))

    def test_unknown_agrees_with_all(self):
        for value in KNOWN:
            self.assertIs(agrees(U, value), True)
            self.assertIs(agrees((U,), (value,)), True)
            self.assertIs(agrees({"a": U, "b": 1}, {"b": 1, "a": value}), True)
            self.assertIs(agrees((U, 1), (value, 2)), False)
            self.assertIs(agrees((U, 1), (value, True)), False)

    def test_the_rest_must_fit(self):
        self.assertFalse(agrees((U,), ()))
        self.assertFalse(agrees((U,), (1, 1)))
        self.assertFalse(agrees({"a": U}, {"b": 1}))
        self.assertFalse(agrees({"a": U}, {"a": 1, "b": 1}))
        self.assertFalse(agrees({"a": U, "b": U}, {"a": 1}))
        self.assertFalse(agrees((U,), {"a": 1}))
        self.assertFalse(agrees({"a": U}, (1,)))
        self.assertFalse(agrees((U,), 1))
        self.assertFalse(agrees((U,), None))

    def test_an_unknown_inside_never_stands_for_a_tag(self):
        for planned in (("#", "net", U), ("#", U, 1), (U, "net", 1), (U, U, U)):
            self.assertIs(agrees(planned, TAG), False)
            self.assertIs(agrees((planned,), (TAG,)), False)
            self.assertIs(agrees({"a": planned}, {"a": TAG}), False)
        self.assertIs(agrees(("#", "net", U), ("#", "net", 0)), True)
        self.assertIs(agrees(("#", "net", U), ("#", "net", True)), True)
        self.assertIs(agrees(("#", U, 1), ("#", "Net", 1)), True)
        self.assertIs(agrees((U, "net", 1), ("", "net", 1)), True)
        self.assertIs(agrees((U,), (TAG,)), True)
        self.assertIs(agrees(TAG, TAG), True)
        self.assertIs(agrees(TAG, ("#", "net", True)), False)

    def test_as_all_fillings_tell(self):
        known = [value for value in PATTERNS if is_known(value)]
        values = known + [value for pattern in PATTERNS for value in fillings(pattern, (1, 2, "#", TAG, (1,)))]
        for planned, value in itertools.product(PATTERNS, values):
            with self.subTest(planned=planned, value=value):
                filled = fillings(planned, all_parts(value), as_tag=False)
                self.assertIs(agrees(planned, value), form(value) in [form(one) for one in filled])

    def test_eight_deep(self):
        self.assertIs(agrees(eight_deep(U), eight_deep(TAG)), True)
        self.assertIs(agrees(eight_deep(1), eight_deep(1)), True)
        self.assertIs(agrees(eight_deep(1), eight_deep(True)), False)


class Same(unittest.TestCase):
    def test_known_ones(self):
        for one, other in itertools.product(KNOWN, KNOWN):
            with self.subTest(one=one, other=other):
                self.assertIs(same(one, other), form(one) == form(other))

    def test_order_of_keys_means_nothing(self):
        self.assertIs(same({"a": 1, "b": (2,)}, {"b": (2,), "a": 1}), True)
        self.assertEqual(same({"a": 1, "b": U}, {"b": 2, "a": 1}), Unknown())
        self.assertIs(same({"a": 1, "b": U}, {"b": 2, "a": 3}), False)

    def test_unknown_against_all(self):
        for value in (*KNOWN, U, (U,)):
            self.assertEqual(same(U, value), Unknown())
            self.assertEqual(same(value, U), Unknown())

    def test_one_false_part_is_enough(self):
        self.assertIs(same((U, 1), (1, 2)), False)
        self.assertIs(same((1, U), (2, U)), False)
        self.assertIs(same((U, 1), (1, True)), False)
        self.assertIs(same(((U,), {"a": 1}), ((U,), {"a": None})), False)
        self.assertIs(same({"a": U}, {"b": U}), False)
        self.assertIs(same((U,), (U, U)), False)
        self.assertIs(same((U,), {"a": U}), False)
        self.assertIs(same((U,), 1), False)
        self.assertIs(same({"a": U}, None), False)

    def test_a_tag_and_a_tuple_that_would_come_to_it(self):
        for thing in (("#", "net", U), ("#", U, 1), (U, "net", 1), (U, U, U), ("#", "web", U), ("#", "net", 0)):
            for one, other in ((thing, TAG), ((1, thing), (1, TAG)), ((U, thing), (1, TAG)), ({"a": thing}, {"a": TAG}),
                               (({"a": (thing,)},), ({"a": (TAG,)},))):
                self.assertIs(same(one, other), False)
                self.assertIs(same(other, one), False)

    def test_two_tuples_part_by_part_also_where_a_tag_would_come(self):
        for one, other in (
            (("#", "net", U), ("#", U, 1)), (("#", "net", U), ("#", "net", U)), ((U, U, U), ("#", "net", U)),
            (("#", "net", U), ("#", "net", 0)), ((U, 1), (TAG, 1)), (U, TAG), (U, ("#", "net", U)),
        ):
            self.assertEqual(same(one, other), Unknown())
            self.assertEqual(same(other, one), Unknown())
        self.assertIs(same(("#", "web", U), ("#", "net", U)), False)
        self.assertIs(same(("#", "net", U), ("#", "net", 1, U)), False)
        self.assertIs(same(TAG, TAG), True)

    def test_as_all_fillings_tell(self):
        filled = [(pattern, set(filled_forms(pattern, POOL))) for pattern in PATTERNS]
        for (one, left), (other, right) in itertools.product(filled, filled):
            with self.subTest(one=one, other=other):
                both = is_known(one) and is_known(other)
                self.assertEqual(same(one, other), False if not left & right else both or Unknown())

    def test_eight_deep(self):
        self.assertIs(same(eight_deep(1), eight_deep(1)), True)
        self.assertIs(same(eight_deep(1), eight_deep(True)), False)
        self.assertEqual(same(eight_deep(1), eight_deep(U)), Unknown())


class Passed(unittest.TestCase):
    def test_nothing_is_changed(self):
        for one, other in itertools.product(PATTERNS, PATTERNS):
            first, second = copy.deepcopy(one), copy.deepcopy(other)
            is_known(one), agrees(one, other), same(one, other)
            self.assertEqual((form(one), form(other)), (form(first), form(second)))
            self.assertEqual((repr(one), repr(other)), (repr(first), repr(second)))


if __name__ == "__main__":
    unittest.main()
