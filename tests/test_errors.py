"""The errors: their bases, their values, their equality."""

import unittest

from planfirst import errors
from planfirst.errors import BadConfig, BadOrder, BadSteps, Gone, Lacking, Misfit, PlanError, Taken
from planfirst.values import Unknown

VALUES = {
    "Misfit": ("expression",),
    "NoKind": ("part",),
    "NoConfig": ("at",),
    "BadConfig": ("at", "why"),
    "NoValue": ("param",),
    "Unsure": ("address",),
    "BadMany": ("address",),
    "Lacking": ("address", "attribute"),
    "Refused": ("addresses",),
    "Ring": ("steps",),
    "Taken": ("tag",),
    "Gone": ("tag",),
    "InUse": ("tag",),
    "Occupied": ("address",),
    "Owned": ("address",),
    "NotThere": ("address",),
    "Locked": ("holder",),
    "Stale": ("serial",),
    "NotGeneric": ("address",),
}
TEXT_ERRORS = ("BadOrder", "BadSteps")
OBJECTS = (
    None, True, 0, -3, "", "text", b"bytes", 1.5, (), ("#", "net", 1), [], [1], {}, {"a": [1]},
    {1}, frozenset(), object(), Unknown(), Unknown, len, ValueError("x"),
)


class Bases(unittest.TestCase):
    def test_plan_error_is_a_value_error(self):
        self.assertEqual(PlanError.__bases__, (ValueError,))

    def test_all_others_are_direct_subclasses(self):
        for name in (*VALUES, *TEXT_ERRORS):
            with self.subTest(name):
                self.assertEqual(getattr(errors, name).__bases__, (PlanError,))

    def test_there_are_no_others(self):
        names = {one.__name__ for one in PlanError.__subclasses__()}
        self.assertEqual(names, {*VALUES, *TEXT_ERRORS})

    def test_one_is_not_caught_as_another(self):
        for name in (*VALUES, *TEXT_ERRORS):
            for other in (*VALUES, *TEXT_ERRORS):
                one = getattr(errors, name)
                self.assertEqual(issubclass(one, getattr(errors, other)), name == other)

    def test_they_can_be_raised_and_caught(self):
        for name, values in VALUES.items():
            for kind in (getattr(errors, name), PlanError, ValueError):
                with self.subTest(name), self.assertRaises(kind):
                    raise getattr(errors, name)(*values)


class Values(unittest.TestCase):
    def test_values_of_any_kind_are_kept_as_passed(self):
        for name, values in VALUES.items():
            for thing in OBJECTS:
                told = [thing] + [["other"]] * (len(values) - 1)
                error = getattr(errors, name)(*told)
                for value, passed in zip(values, told):
                    with self.subTest(name, value=value, thing=thing):
                        self.assertIs(getattr(error, value), passed)

    def test_the_order_of_two_values(self):
        error = BadConfig(((), "net", "main"), "kind")
        self.assertEqual((error.at, error.why), (((), "net", "main"), "kind"))
        error = Lacking(((), "net", "main", None), "range")
        self.assertEqual((error.address, error.attribute), (((), "net", "main", None), "range"))

    def test_made_from_exactly_the_values(self):
        for name, values in (*VALUES.items(), *[(name, ("text",)) for name in TEXT_ERRORS]):
            error = getattr(errors, name)
            for number in range(len(values) + 3):
                with self.subTest(name, number=number):
                    if number == len(values):
                        error(*["x"] * number)
                    else:
                        self.assertRaises(TypeError, error, *["x"] * number)

    def test_text_errors_return_their_text(self):
        for error in (BadOrder, BadSteps):
            for text in ("", "x", "a step comes twice", "('a',)", "two\nlines"):
                self.assertEqual(str(error(text)), text)


class Equality(unittest.TestCase):
    def test_equal_by_class_and_values(self):
        self.assertEqual(Gone(("#", "net", 1)), Gone(("#", "net", 1)))
        self.assertNotEqual(Gone(("#", "net", 1)), Gone(("#", "net", 2)))
        self.assertNotEqual(Gone(("#", "net", 1)), Taken(("#", "net", 1)))
        self.assertNotEqual(Gone(1), PlanError(1))
        self.assertNotEqual(PlanError(1), Gone(1))
        self.assertNotEqual(Gone(1), 1)
        self.assertEqual(BadConfig("a", "b"), BadConfig("a", "b"))
        self.assertNotEqual(BadConfig("a", "b"), BadConfig("b", "a"))
        self.assertEqual(BadOrder("x"), BadOrder("x"))
        self.assertNotEqual(BadOrder("x"), BadOrder("y"))
        self.assertNotEqual(BadOrder("x"), BadSteps("x"))

    def test_values_of_one_sort_in_all_parts(self):
        for one, other in (
            (1, True), (0, False), (1, 1.0), ((1,), (True,)), ((1,), [1]), ([0], [False]),
            ({"a": 1}, {"a": True}), ({1: "a"}, {True: "a"}), ({(1, 0): "a"}, {(1, False): "a"}),
            (("say", {"a": (1,)}), ("say", {"a": (True,)})), ((1,), (1, 1)), ({"a": 1}, {"a": 1, "b": 1}),
            ({"a": 1, "b": 1}, {"a": 1}), ({"a": 1}, {"b": 1}), (None, False), ("1", 1),
        ):
            with self.subTest(one=one, other=other):
                self.assertNotEqual(Misfit(one), Misfit(other))
                self.assertEqual(Misfit(one), Misfit(one))

    def test_expressions_201_within_one_another(self):
        def nested(leaf):
            expression = ("say", leaf)
            for _ in range(200):
                expression = ("map", (("a", expression),))
            return expression

        for one in (1, True, Unknown()):
            for other in (1, True, Unknown()):
                self.assertIs(Misfit(nested(one)) == Misfit(nested(other)), type(one) is type(other))

    def test_order_of_keys_and_unknowns(self):
        self.assertEqual(Misfit({"a": 1, "b": 2}), Misfit({"b": 2, "a": 1}))
        self.assertEqual(Misfit(("say", Unknown())), Misfit(("say", Unknown())))


if __name__ == "__main__":
    unittest.main()
