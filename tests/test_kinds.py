"""Point 2.1: kinds."""

import unittest

import odd
from planfirst.errors import NoKind
from planfirst.kinds import Kind

ID = ("id", ("id",))
RANGE = ("range", "wanted", True, None)
TITLE = ("title", "open", False, {"A": "a", "": "none"})
SIZE = ("size", "filled", False, None)
GIVEN = (RANGE, TITLE, SIZE)
MADE = (ID, ("stamp", ("mark",)), ("url", ("around", "range", "http:", "/")), ("again", ("mark",)))

# Each of the parameters in a form that is not told, and one that is.
NO_PART = {"name": "Net", "given": [RANGE], "made": (), "single": "stamp", "holds": ("url",)}
A_PART = {"name": "net", "given": GIVEN, "made": MADE, "single": "range", "holds": ("title", "size")}


def kind(**others):
    passed = {**A_PART, **others}
    return Kind(passed["name"], passed["given"], passed["made"], single=passed["single"], holds=passed["holds"])


class Case(unittest.TestCase):
    def refused(self, part, **others):
        with self.subTest(part, **others), self.assertRaises(NoKind) as caught:
            kind(**others)
        self.assertEqual(caught.exception.part, part)

    def taken(self, **others):
        with self.subTest(**others):
            made = kind(**others)
            for name, value in {**A_PART, **others}.items():
                self.assertEqual(repr(getattr(made, name)), repr(value))


class Kinds(Case):
    def test_the_parameters_are_values(self):
        made = Kind("net", GIVEN, MADE, single="range", holds=("title", "size"))
        self.assertEqual(
            (made.name, made.given, made.made, made.single, made.holds),
            ("net", GIVEN, MADE, "range", ("title", "size")),
        )

    def test_what_need_not_be_passed(self):
        made = Kind("net", (RANGE,), (ID,))
        self.assertIsNone(made.single)
        self.assertEqual(made.holds, ())

    def test_the_least(self):
        self.taken(given=(), made=(ID,), single=None, holds=())

    def test_by_name_behind_the_star(self):
        self.assertRaises(TypeError, Kind, "net", (RANGE,), (ID,), "range")

    def test_nothing_is_changed(self):
        reading = {"A": "a"}
        Kind("net", (("title", "open", False, reading),), (ID,))
        self.assertEqual(reading, {"A": "a"})


class Names(Case):
    def test_names(self):
        for name in ("a", "z", "net", "abcdefghijkl", "zzzzzzzzzzzz"):
            self.taken(name=name)

    def test_what_is_no_name(self):
        for thing in odd.all_but(odd.NAMES):
            self.refused("name", name=thing)


class Given(Case):
    def given(self, *row):
        return {"given": (RANGE, row, SIZE), "made": (ID,), "single": None, "holds": ()}

    def test_sorts_and_bools(self):
        for sort in ("wanted", "open", "filled"):
            for forces in (True, False):
                for reading in (None, {}, {"A": "a"}, {"": "", "a": "b", "b": "a"}):
                    self.taken(**self.given("title", sort, forces, reading))

    def test_no_tuple(self):
        for thing in odd.all_but(odd.NOTHING):
            self.refused("given", given=thing, made=(ID,), single=None, holds=())

    def test_rows_of_other_forms(self):
        for row in odd.ALL:
            self.refused("given", given=(RANGE, row))
        for row in (("title", "open", False), ("title", "open", False, None, None), list(RANGE)):
            self.refused("given", given=(row,))
        self.refused("given", given=RANGE)

    def test_attributes(self):
        for thing in odd.all_but(odd.NAMES):
            self.refused("given", **self.given(thing, "open", False, None))

    def test_other_sorts(self):
        for thing in (*odd.ALL, "Wanted", "closed", "id"):
            self.refused("given", **self.given("title", thing, False, None))

    def test_forces_is_a_bool(self):
        for thing in odd.all_but(odd.BOOLS):
            self.refused("given", **self.given("title", "open", thing, None))

    def test_reading_is_a_dict_of_texts(self):
        for thing in odd.all_but((None,), odd.NO_KEYS, [one for one in odd.DICTS if one == {"a": "b"}]):
            self.refused("given", **self.given("title", "open", False, thing))
        for reading in ({"a": None}, {"a": "b", "c": 1}, {"a": "b", 1: "c"}, {b"a": "b"}, {"a": ("b",)}):
            self.refused("given", **self.given("title", "open", False, reading))

    def test_an_attribute_twice(self):
        self.refused("given", given=(RANGE, TITLE, RANGE))
        self.refused("given", given=(RANGE, ("range", "open", False, {})))

    def test_one_row_of_several_is_wrong(self):
        for at in range(3):
            rows = [RANGE, TITLE, SIZE]
            rows[at] = (rows[at][0], "open", 1, None)
            self.refused("given", given=tuple(rows))


class Made(Case):
    def test_rules(self):
        for made in (
            (ID,), (ID, ("stamp", ("mark",))), (ID, ("url", ("around", "size", "", ""))),
            (ID, ("b", ("around", "range", "<", ">")), ("a", ("around", "range", "a", "b"))), MADE,
        ):
            self.taken(made=made)

    def test_no_tuple(self):
        for thing in odd.ALL:
            self.refused("made", made=thing)

    def test_entries_of_other_forms(self):
        for thing in odd.ALL:
            self.refused("made", made=(ID, thing))
            self.refused("made", made=(thing,))
        for entry in (("stamp",), ("stamp", ("mark",), None), ["stamp", ("mark",)]):
            self.refused("made", made=(ID, entry))
        self.refused("made", made=ID)

    def test_attributes(self):
        for thing in odd.all_but(odd.NAMES):
            self.refused("made", made=(ID, (thing, ("mark",))))

    def test_other_rules(self):
        for rule in (
            *odd.ALL, "id", "mark", ["mark"], ("Mark",), ("mark", None), ("mark", "a"), ("id", "id"), ("around",),
            ("around", "range"), ("around", "range", ""), ("around", "range", "", "", ""), ["around", "range", "", ""],
            ("between", "range", "", ""),
        ):
            self.refused("made", made=(ID, ("stamp", rule)))

    def test_around_goes_around_a_given_attribute_without_a_reading(self):
        for name in ("title", "id", "stamp", "url", "none", "again"):
            self.refused("made", made=(ID, ("stamp", ("mark",)), ("url", ("around", name, "", ""))))
        for thing in odd.ALL:
            self.refused("made", made=(ID, ("url", ("around", thing, "", ""))))
        self.refused("made", given=(("range", "open", False, {}),), made=(ID, ("url", ("around", "range", "", ""))))

    def test_around_has_two_texts(self):
        for thing in odd.all_but(odd.TEXTS):
            self.refused("made", made=(ID, ("url", ("around", "range", thing, ""))))
            self.refused("made", made=(ID, ("url", ("around", "range", "", thing))))

    def test_id_comes_first_and_only_there(self):
        for made in (
            (("stamp", ("mark",)),), (("stamp", ("mark",)), ID), (("key", ("id",)),), (("id", ("mark",)),),
            (ID, ("key", ("id",))), (ID, ID), (("key", ("id",)), ID), (ID, ("stamp", ("mark",)), ("key", ("id",))),
            (("id", ("around", "range", "", "")),),
        ):
            self.refused("made", made=made)

    def test_an_attribute_twice(self):
        self.refused("made", made=(ID, ("stamp", ("mark",)), ("stamp", ("mark",))))
        self.refused("made", made=(ID, ("id", ("mark",))))
        self.refused("made", made=(ID, ("range", ("mark",))))
        self.refused("made", given=(RANGE, ("id", "open", False, None)), made=(ID,))

    def test_at_most_eight_attributes(self):
        given = [(name, "open", False, None) for name in "abcdefghi"]
        marks = [(name, ("mark",)) for name in "pqrstuvw"]
        for number in range(10):
            for more in range(9):
                passed = {"given": tuple(given[:number]), "made": (ID, *marks[:more]), "single": None, "holds": ()}
                if number + 1 + more <= 8:
                    self.taken(**passed)
                else:
                    self.refused("made", **passed)


class Single(Case):
    def test_given_attributes(self):
        for name in (None, "range", "title", "size"):
            self.taken(single=name)

    def test_others(self):
        for thing in (*odd.all_but((None,)), "id", "stamp", "url", "none", "Range", ("range",)):
            self.refused("single", single=thing)


class Holds(Case):
    def test_given_attributes(self):
        for names in ((), ("range",), ("size", "range"), ("title", "size", "range")):
            self.taken(holds=names)

    def test_others(self):
        for thing in (*odd.all_but(odd.NOTHING), "range", ["range"]):
            self.refused("holds", holds=thing)
        for thing in (*odd.ALL, "id", "stamp", "none"):
            self.refused("holds", holds=("range", thing))

    def test_an_attribute_twice(self):
        self.refused("holds", holds=("range", "range"))
        self.refused("holds", holds=("range", "size", "range"))


class Several(Case):
    def test_the_first_is_told(self):
        parts = list(NO_PART)
        for first in range(len(parts)):
            for mask in range(2 ** (len(parts) - first - 1)):
                wrong = [parts[first]] + [part for at, part in enumerate(parts[first + 1:]) if mask >> at & 1]
                self.refused(parts[first], **{part: NO_PART[part] for part in wrong})


class Equality(Case):
    def test_equal_ones(self):
        self.assertEqual(kind(), kind())
        self.assertFalse(kind() != kind())
        one = ("title", "open", False, {"a": "b", "c": "d"})
        other = ("title", "open", False, {"c": "d", "a": "b"})
        self.assertEqual(Kind("net", (one,), (ID,)), Kind("net", (other,), (ID,)))

    def test_one_thing_otherwise(self):
        others = (
            {"name": "web"}, {"given": (TITLE, RANGE, SIZE)}, {"given": GIVEN + (("more", "open", False, None),)},
            {"given": (("range", "open", True, None), TITLE, SIZE)},
            {"given": (("range", "wanted", False, None), TITLE, SIZE)},
            {"given": (RANGE, ("title", "open", False, {"A": "a"}), SIZE)},
            {"given": (RANGE, ("title", "open", False, None), SIZE)},
            {"given": (RANGE, ("title", "open", False, {}), SIZE)}, {"made": MADE[:3]}, {"made": (ID,)},
            {"made": (ID, MADE[2], MADE[1], MADE[3])},
            {"made": (*MADE[:2], ("url", ("around", "range", "", "/")), MADE[3])}, {"single": None}, {"single": "size"},
            {"holds": ()}, {"holds": ("size", "title")}, {"holds": ("title",)},
        )
        all_of_them = [kind(), *[kind(**other) for other in others]]
        for at, one in enumerate(all_of_them):
            for place, other in enumerate(all_of_them):
                self.assertIs(one == other, at == place, (at, place))
                self.assertIs(one != other, at != place, (at, place))

    def test_objects_of_other_classes(self):
        for thing in odd.ALL:
            self.assertIs(kind() == thing, False)
            self.assertIs(thing == kind(), False)


if __name__ == "__main__":
    unittest.main()
