"""Points 3.1 and 3.2: worlds."""

import copy
import random
import unittest

import odd
from planfirst.errors import Gone, InUse, PlanError, Taken
from planfirst.kinds import Kind
from planfirst.worlds import World

ID = ("id", ("id",))
NET = Kind("net", (("range", "wanted", True, None),), (ID,))
WEB = Kind(
    "web",
    (("net", "wanted", True, None), ("title", "open", False, None), ("size", "filled", False, None),
     ("mode", "open", False, {"A": "a", "a": "b", "": "none"})),
    (ID, ("stamp", ("mark",)), ("url", ("around", "title", "http:", "/")), ("again", ("mark",))),
    single="title", holds=("net",),
)
PLAIN = Kind("plain", (), (ID,))
PAIR = Kind(
    "pair", (("one", "open", False, None), ("other", "open", False, None), ("free", "open", False, None)), (ID,),
    holds=("other", "one"),
)
FILL = Kind("fill", (("x", "filled", True, None),), (ID, ("y", ("around", "x", "<", ">"))), single="x")
READ = Kind("read", (("x", "open", False, {"A": "a"}),), (ID,), single="x")
KINDS = {"net": NET, "web": WEB, "plain": PLAIN, "pair": PAIR, "fill": FILL, "read": READ}


def tag(kind, number):
    return ("#", kind, number)


def kept(world, one):
    return world.things()[one][1]


class Case(unittest.TestCase):
    def refused(self, error, told, world, deed, *passed):
        """Whether the deed is refused so, and changes nothing."""
        before, number = repr(world.things()), world.copy().make("plain", {})
        with self.subTest(deed, passed=passed):
            with self.assertRaises(PlanError) as caught:
                getattr(world, deed)(*passed)
            self.assertIs(type(caught.exception), error)
            self.assertEqual(repr(caught.exception.tag), repr(told))
            self.assertEqual(repr(world.things()), before)
            self.assertEqual(world.copy().make("plain", {}), number)


class Making(Case):
    def test_empty(self):
        self.assertEqual(World(KINDS).things(), {})
        self.assertEqual(World({}).things(), {})

    def test_all_attributes_are_kept(self):
        world = World(KINDS)
        self.assertEqual(world.make("web", {"net": 1, "title": "t", "size": "s", "mode": "A"}), tag("web", 1))
        self.assertEqual(world.things(), {
            tag("web", 1): ("web", {
                "net": 1, "title": "t", "size": "s", "mode": "A", "id": tag("web", 1), "stamp": tag("web", 2),
                "url": "http:t/", "again": tag("web", 3),
            }),
        })

    def test_what_is_not_given(self):
        for given in ({}, {"net": None, "title": None, "size": None, "mode": None}):
            world = World(KINDS)
            self.assertEqual(kept(world, world.make("web", given)), {
                "net": None, "title": None, "size": "filled", "mode": None, "id": tag("web", 1),
                "stamp": tag("web", 2), "url": "http:/", "again": tag("web", 3),
            })

    def test_the_world_looks_at_nothing_else(self):
        world = World(KINDS)
        one = world.make("web", {"net": tag("net", 99), "title": {"a": 1}, "size": False, "mode": 5})
        self.assertEqual(repr(kept(world, one)["size"]), "False")
        self.assertEqual((kept(world, one)["net"], kept(world, one)["mode"]), (tag("net", 99), 5))

    def test_numbers(self):
        world = World(KINDS)
        kinds = ("net", "web", "plain", "pair", "web", "net")
        made = [world.make(kind, {}) for kind in kinds]
        self.assertEqual(made, [tag(kind, number) for kind, number in zip(kinds, (1, 2, 5, 6, 7, 10))])
        self.assertEqual([kept(world, tag("web", 7))[name] for name in ("id", "stamp", "again")],
                         [tag("web", 7), tag("web", 8), tag("web", 9)])
        world.change(tag("net", 1), {})
        world.change(tag("web", 2), {})
        self.assertEqual([kept(world, tag("web", 2))[name] for name in ("id", "stamp", "again")],
                         [tag("web", 2), tag("web", 11), tag("web", 12)])
        world.destroy(tag("net", 10))
        world.alter(tag("web", 2), "mode", 1)
        world.read(tag("web", 2))
        self.assertEqual(world.make("net", {}), tag("net", 13))

    def test_marks_in_the_order_of_made(self):
        kind = Kind("k", (), (ID, ("b", ("mark",)), ("a", ("mark",)), ("c", ("mark",))))
        world = World({"k": kind})
        told = {"id": tag("k", 1), "b": tag("k", 2), "a": tag("k", 3), "c": tag("k", 4)}
        self.assertEqual(kept(world, world.make("k", {})), told)

    def test_order_of_making(self):
        world = World(KINDS)
        made = [world.make(kind, {}) for kind in ("web", "plain", "net", "plain")]
        self.assertEqual(list(world.things()), made)
        world.change(made[0], {"title": "t"})
        world.alter(made[0], "title", "u")
        world.destroy(made[2])
        made.append(world.make("net", {}))
        self.assertEqual(list(world.things()), [made[0], made[1], made[3], made[4]])

    def test_around(self):
        for value, text in (
            ("t", "t"), ("", ""), (0, "0"), (-12, "-12"), (10 ** 20, "1" + "0" * 20), (None, ""), (True, ""),
            (False, ""), ((), ""), (("a",), ""), ({}, ""), ({"a": 1}, ""), (tag("net", 1), ""),
        ):
            world = World(KINDS)
            one = world.make("web", {"title": value})
            self.assertEqual(kept(world, one)["url"], f"http:{text}/")
            other = world.make("web", {})
            world.change(other, {"title": "x"})
            world.alter(other, "title", value)
            self.assertEqual(kept(world, other)["url"], f"http:{text}/")
            world.alter(other, "title", "x")
            world.alter(one, "title", None)
            world.change(other, {"title": value})
            self.assertEqual(kept(world, other)["url"], f"http:{text}/")

    def test_around_between_any_texts(self):
        for one in ("mark", "id", "around", "x"):
            for other in ("mark", "id", "around", ""):
                kind = Kind("k", (("x", "open", False, None),), (ID, ("y", ("around", "x", one, other))))
                world = World({"k": kind})
                self.assertEqual(kept(world, world.make("k", {"x": "-"}))["y"], f"{one}-{other}")
                self.assertEqual(world.make("k", {}), tag("k", 2))

    def test_around_what_is_chosen(self):
        world = World(KINDS)
        self.assertEqual(kept(world, world.make("fill", {}))["y"], "<filled>")


class Taking(Case):
    VALUES = (True, False, 0, 1, "", "1", "a", (), (1,), (True,), ("a",), {}, {"a": 1}, {"a": True}, tag("net", 1),
              tag("net", 2), ("#", "net", 0), ({"a": (1,)},), ({"a": (True,)},))

    def test_only_the_same_value(self):
        for first, value in enumerate(self.VALUES):
            for second, other in enumerate(self.VALUES):
                world = World(KINDS)
                world.make("web", {"title": value})
                if first == second:
                    self.refused(Taken, tag("web", 1), world, "make", "web", {"title": copy.deepcopy(other)})
                else:
                    world.make("web", {"title": other})

    def test_none_is_no_value(self):
        world = World(KINDS)
        world.make("web", {})
        world.make("web", {"title": None})
        one = world.make("web", {"title": "t"})
        world.change(one, {"title": None})
        world.change(one, {"title": None, "mode": "a"})
        self.assertEqual(len(world.things()), 3)

    def test_keys_in_another_order(self):
        world = World(KINDS)
        one = world.make("web", {"title": {"a": 1, "b": 2}})
        self.refused(Taken, one, world, "make", "web", {"title": {"b": 2, "a": 1}})

    def test_of_the_same_kind_only(self):
        world = World(KINDS)
        world.make("web", {"title": "t"})
        world.make("fill", {"x": "t"})
        world.make("read", {"x": "t"})
        self.assertEqual(len(world.things()), 3)

    def test_what_is_chosen_counts(self):
        world = World(KINDS)
        one = world.make("fill", {})
        self.refused(Taken, one, world, "make", "fill", {})
        self.refused(Taken, one, world, "make", "fill", {"x": "filled"})

    def test_values_as_they_are_kept(self):
        world = World(KINDS)
        one = world.make("read", {"x": "A"})
        world.make("read", {"x": "a"})
        self.refused(Taken, one, world, "make", "read", {"x": "A"})

    def test_the_first_other_one(self):
        world = World(KINDS)
        one, two, three = [world.make("web", {"title": title}) for title in ("x", "y", "z")]
        world.alter(three, "title", "x")
        world.alter(two, "title", "x")
        self.refused(Taken, one, world, "make", "web", {"title": "x"})
        self.refused(Taken, two, world, "change", one, {"title": "x"})
        self.refused(Taken, one, world, "change", two, {"title": "x"})
        self.refused(Taken, one, world, "change", three, {"title": "x", "mode": "a"})
        world.destroy(one)
        self.refused(Taken, two, world, "make", "web", {"title": "x"})
        world.destroy(two)
        world.change(three, {"title": "x"})
        world.make("web", {"title": "y"})

    def test_change_looks_only_at_what_it_gives(self):
        world = World(KINDS)
        one, two = world.make("web", {"title": "x"}), world.make("web", {"title": "y"})
        world.alter(two, "title", "x")
        world.change(two, {"mode": "a"})
        world.change(one, {})
        self.refused(Taken, one, world, "change", two, {"mode": "b", "title": "x"})
        self.assertEqual(kept(world, two)["title"], "x")

    def test_its_own_value_is_free(self):
        world = World(KINDS)
        one = world.make("web", {"title": "x"})
        world.change(one, {"title": "x"})
        self.assertEqual(kept(world, one)["stamp"], tag("web", 4))


class Changing(Case):
    def test_others_stay(self):
        world = World(KINDS)
        one = world.make("web", {"net": 1, "title": "t", "size": 2, "mode": "A"})
        self.assertIsNone(world.change(one, {"title": "u", "mode": None}))
        self.assertEqual(kept(world, one), {
            "net": 1, "title": "u", "size": 2, "mode": None, "id": one, "stamp": tag("web", 4), "url": "http:u/",
            "again": tag("web", 5),
        })

    def test_nothing_is_chosen_later(self):
        world = World(KINDS)
        one = world.make("web", {"size": 5})
        world.change(one, {"size": None})
        self.assertIsNone(kept(world, one)["size"])

    def test_new_marks_even_if_nothing_is_given(self):
        world = World(KINDS)
        one = world.make("web", {})
        world.change(one, {})
        told = [kept(world, one)[name] for name in ("id", "stamp", "again")]
        self.assertEqual(told, [one, tag("web", 4), tag("web", 5)])

    def test_gone_comes_ahead_of_taken(self):
        world = World(KINDS)
        one = world.make("web", {"title": "t"})
        gone = world.make("web", {})
        world.destroy(gone)
        self.refused(Gone, gone, world, "change", gone, {"title": "t"})
        self.refused(Gone, tag("web", 2), world, "change", tag("web", 2), {"title": "t"})
        self.refused(Taken, one, world, "change", world.make("web", {}), {"title": "t"})


class Standing(Case):
    """What is no id of an object is gone for all deeds."""

    def test_gone(self):
        world = World(KINDS)
        one = world.make("web", {})
        gone = world.make("plain", {})
        world.destroy(gone)
        for thing in (
            *odd.ALL, gone, kept(world, one)["stamp"], tag("net", 1), tag("web", 0), tag("web", 99), ("#", "web", True),
            ("#", "web", 1.0), ["#", "web", 1], ("web", 1), 1, "web", ("#", ["web"], 1), ("#", "web", 1, 1),
        ):
            self.assertIsNone(world.read(thing))
            self.refused(Gone, thing, world, "change", thing, {})
            self.refused(Gone, thing, world, "destroy", thing)
            self.refused(Gone, thing, world, "alter", thing, "title", 1)

    def test_deeds_return_nothing(self):
        world = World(KINDS)
        one = world.make("web", {})
        self.assertIsNone(world.change(one, {}))
        self.assertIsNone(world.alter(one, "title", "t"))
        self.assertIsNone(world.destroy(one))
        self.assertEqual(world.things(), {})


class Holding(Case):
    def test_each_form(self):
        for value, holds in (
            (tag("net", 1), True), ((tag("net", 1),), True), ((tag("plain", 9), tag("net", 1)), True), (None, False),
            ((), False), (tag("net", 2), False), ((tag("net", 2), tag("plain", 1)), False), ((tag("net", 1), 1), False),
            ((tag("net", 1), None), False), (((tag("net", 1),),), False), ({"a": tag("net", 1)}, False),
            (("#", "net", True), False), ((("#", "net", True),), False), ((tag("net", 1), ("#", "net", 0)), False),
            ((tag("net", 1), tag("net", 1), tag("net", 1)), True), ("net", False), (1, False), ((1,), False),
        ):
            for name in ("one", "other", "free"):
                world = World(KINDS)
                net = world.make("net", {})
                pair = world.make("pair", {name: value})
                if holds and name != "free":
                    self.refused(InUse, pair, world, "destroy", net)
                else:
                    world.destroy(net)
                    self.assertEqual(list(world.things()), [pair])

    def test_the_first_other_one(self):
        world = World(KINDS)
        ones = [world.make("pair", {}) for _ in range(4)]
        net = world.make("net", {})
        world.alter(ones[2], "one", net)
        world.change(ones[1], {"other": (net,)})
        world.alter(ones[3], "one", net)
        for holder in ones[1:]:
            self.refused(InUse, holder, world, "destroy", net)
            world.destroy(holder)
        world.destroy(net)
        self.assertEqual(list(world.things()), ones[:1])

    def test_objects_of_every_kind_hold(self):
        world = World(KINDS)
        plain = world.make("plain", {})
        web = world.make("web", {"net": plain})
        self.refused(InUse, web, world, "destroy", plain)
        world.change(web, {"net": None})
        world.destroy(plain)

    def test_nothing_holds_itself(self):
        world = World(KINDS)
        one = world.make("pair", {})
        other = world.make("pair", {"one": one})
        world.change(one, {"one": (one, other), "other": one})
        self.refused(InUse, other, world, "destroy", one)
        self.refused(InUse, one, world, "destroy", other)
        world.change(one, {"one": one})
        world.destroy(other)
        world.destroy(one)

    def test_marks_are_not_held(self):
        world = World(KINDS)
        web = world.make("web", {})
        world.make("pair", {"one": kept(world, web)["stamp"]})
        world.destroy(web)


class Altering(Case):
    def test_no_new_marks(self):
        world = World(KINDS)
        one = world.make("web", {"title": "t"})
        world.alter(one, "title", "u")
        self.assertEqual(kept(world, one), {
            "net": None, "title": "u", "size": "filled", "mode": None, "id": one, "stamp": tag("web", 2),
            "url": "http:u/", "again": tag("web", 3),
        })

    def test_whatever_single_is(self):
        world = World(KINDS)
        world.make("web", {"title": "t"})
        one = world.make("web", {})
        world.alter(one, "title", "t")
        self.assertEqual(kept(world, one)["title"], "t")

    def test_none_is_kept(self):
        world = World(KINDS)
        one = world.make("web", {})
        world.alter(one, "size", None)
        self.assertIsNone(kept(world, one)["size"])


class Telling(Case):
    def test_a_reading_is_told_once(self):
        for value, told in (
            ("A", "a"), ("a", "b"), ("b", "b"), ("", "none"), ("c", "c"), (None, None), (1, 1), (True, True),
            (("A",), ("A",)), ({"A": "A"}, {"A": "A"}), (tag("net", 1), tag("net", 1)), ((), ()), ({}, {}),
        ):
            world = World(KINDS)
            one = world.make("web", {"mode": value, "title": "A"})
            self.assertEqual(repr(world.read(one)["mode"]), repr(told))
            self.assertEqual(repr(kept(world, one)["mode"]), repr(value))
            self.assertEqual({**world.read(one), "mode": value}, kept(world, one))

    def test_reading_changes_nothing(self):
        world = World(KINDS)
        one = world.make("web", {"mode": "A"})
        before = world.things()
        for _ in range(3):
            self.assertEqual(world.read(one)["mode"], "a")
        self.assertEqual(world.things(), before)


class Apart(Case):
    """Nothing that is passed or told shares a dict with the world, and no copy with another one."""

    def value(self):
        return ({"a": {"b": 1}}, {"c": ({"d": 2},)})

    def spoil(self, value):
        value[0]["a"]["b"] = 9
        value[0]["new"] = 9
        value[1]["c"][0]["d"] = 9

    def test_what_is_handed_in(self):
        world = World(KINDS)
        value = self.value()
        given = {"title": value, "net": 1}
        one = world.make("web", given)
        self.spoil(value)
        given["net"] = 2
        self.assertEqual((kept(world, one)["title"], kept(world, one)["net"]), (self.value(), 1))
        value = self.value()
        given = {"title": value}
        world.change(one, given)
        self.spoil(value)
        given["title"] = 1
        self.assertEqual(kept(world, one)["title"], self.value())
        value = self.value()
        world.alter(one, "net", value)
        self.spoil(value)
        self.assertEqual(kept(world, one)["net"], self.value())

    def test_what_is_told(self):
        world = World(KINDS)
        one = world.make("web", {"title": self.value(), "mode": self.value()})
        for told in (world.read(one), world.things()[one][1], world.copy().things()[one][1]):
            self.spoil(told["title"])
            self.spoil(told["mode"])
            told.clear()
        world.things().clear()
        self.assertEqual((kept(world, one)["title"], kept(world, one)["mode"]), (self.value(), self.value()))
        self.assertEqual((world.read(one)["title"], world.read(one)["mode"]), (self.value(), self.value()))

    def test_the_kinds(self):
        kinds = {"net": NET}
        world = World(kinds)
        kinds.clear()
        self.assertEqual(world.make("net", {}), tag("net", 1))

    def test_nothing_that_is_passed_is_changed(self):
        given, kinds = {"title": None}, dict(KINDS)
        world = World(kinds)
        one = world.make("web", given)
        world.change(one, given)
        self.assertEqual((given, kinds), ({"title": None}, KINDS))

    def test_copies(self):
        world = World(KINDS)
        one = world.make("web", {"title": self.value()})
        other = world.make("plain", {})
        copied = world.copy()
        self.assertIsInstance(copied, World)
        self.assertEqual(copied.things(), world.things())
        self.assertEqual(list(copied.things()), list(world.things()))
        before = world.things()
        copied.change(one, {"title": "u"})
        copied.alter(one, "mode", "x")
        copied.destroy(other)
        copied.make("net", {})
        self.assertEqual(world.things(), before)
        self.assertEqual(world.make("net", {}), tag("net", 5))
        self.assertEqual(copied.make("net", {}), tag("net", 8))
        before = copied.things()
        world.alter(one, "title", "v")
        world.destroy(one)
        self.assertEqual(copied.things(), before)
        self.assertEqual(list(before), [one, tag("net", 7), tag("net", 8)])


class AtLength(Case):
    """Long rows of deeds, against numbers and values that are kept by hand."""

    def test_random_deeds(self):
        chance = random.Random(3)
        for _ in range(40):
            world, by_hand, last = World(KINDS), {}, 0
            for _ in range(40):
                deed = chance.choice(("make", "make", "change", "alter", "destroy", "copy"))
                title = chance.choice(("a", "b", 1, True, None))
                one = chance.choice([*by_hand, tag("web", 99)])
                owners = [own for own in by_hand if title is not None and repr(by_hand[own]["title"]) == repr(title)]
                others = [own for own in owners if own != one or deed == "make"]
                try:
                    if deed == "make":
                        made = world.make("web", {"title": title})
                        self.assertEqual((made, others), (tag("web", last + 1), []))
                        by_hand[made] = {"title": title, "stamp": last + 2}
                        last += 3
                    elif deed == "change":
                        world.change(one, {"title": title})
                        self.assertEqual(others, [])
                        by_hand[one] = {"title": title, "stamp": last + 1}
                        last += 2
                    elif deed == "alter":
                        world.alter(one, "title", title)
                        by_hand[one]["title"] = title
                    elif deed == "destroy":
                        world.destroy(one)
                        del by_hand[one]
                    else:
                        world = world.copy()
                except Taken as error:
                    self.assertEqual(error.tag, others[0])
                except Gone as error:
                    self.assertEqual(error.tag, tag("web", 99))
                found = {own: (kept(world, own)["title"], kept(world, own)["stamp"]) for own in world.things()}
                expected = {own: (by_hand[own]["title"], tag("web", by_hand[own]["stamp"])) for own in by_hand}
                self.assertEqual(repr(found), repr(expected))


if __name__ == "__main__":
    unittest.main()
