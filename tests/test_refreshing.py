"""Point 4.2: a state held against the world."""

import copy
import unittest

from planfirst.kinds import Kind
from planfirst.refreshing import refreshed
from planfirst.states import Object, State, empty
from planfirst.worlds import World

DOC = Kind(
    "doc",
    (("x", "open", False, {"A": "a", "a": "b"}), ("y", "open", False, None), ("z", "filled", False, None),
     ("w", "open", False, None)),
    (("id", ("id",)), ("stamp", ("mark",)), ("url", ("around", "y", "<", ">"))),
)
KINDS = {"doc": DOC}
D, E = ((), "doc", "one", None), ((), "doc", "two", "key")
NEEDS = (((), "net", "main"),)


class Case(unittest.TestCase):
    def setUp(self):
        self.world = World(KINDS)

    def made(self, **given):
        """An object that is made with these values, as the world keeps it."""
        tag = self.world.make("doc", given)
        return Object(tag, self.world.things()[tag][1], False, NEEDS, True)

    def read(self, one):
        return Object(one.tag, self.world.read(one.tag), one.tainted, one.needs, one.first)

    def comes_to(self, old, new, drift):
        """Whether refreshing the state comes to this, and changes neither it nor the world."""
        before, things = copy.deepcopy(old), self.world.things()
        found, told = refreshed(old, self.world)
        self.assertEqual(found, new)
        self.assertEqual(told, drift)
        self.assertEqual((old, self.world.things()), (before, things))
        return found


class Refreshing(Case):
    def test_nothing(self):
        self.comes_to(empty(), empty(), {})
        self.comes_to(State({}, {}, {"o": {"a": 1}}, 5), State({}, {}, {"o": {"a": 1}}, 5), {})

    def test_what_is_returned(self):
        found = refreshed(empty(), self.world)
        self.assertIsInstance(found, tuple)
        self.assertIsInstance(found[0], State)
        self.assertIsInstance(found[1], dict)

    def test_as_they_were(self):
        one, two = self.made(y=1), self.made(y={"a": (1,)})
        state = State({D: one}, {(E, 2): two}, {"o": 1}, 4)
        self.comes_to(state, state, {})

    def test_gone(self):
        one, two, three = self.made(y=1), self.made(y=2), self.made(y=3)
        self.world.destroy(one.tag)
        self.world.destroy(three.tag)
        state = State({D: one, E: two}, {(E, 1): three, (D, 2): two}, {"o": 1}, 4)
        self.comes_to(state, State({E: two}, {(D, 2): two}, {"o": 1}, 4), {D: None, (E, 1): None})

    def test_an_id_that_never_was(self):
        for tag in (("#", "doc", 0), ("#", "doc", 9), ("#", "web", 1)):
            state = State({D: Object(tag, {"y": 1}, False, (), False)}, {}, {}, 0)
            self.comes_to(state, empty(), {D: None})

    def test_altered(self):
        one, two = self.made(y=1), self.made(y=2, z=3)
        self.world.alter(one.tag, "y", 5)
        self.world.alter(two.tag, "z", None)
        found = self.comes_to(
            State({D: one}, {(E, 3): two}, {}, 4), State({D: self.read(one)}, {(E, 3): self.read(two)}, {}, 4),
            {D: ("url", "y"), (E, 3): ("z",)},
        )
        self.assertEqual(found.objects[D].attributes["y"], 5)

    def test_changed_by_others(self):
        one = self.made(y=1)
        self.world.change(one.tag, {"z": "new"})
        self.comes_to(State({D: one}, {}, {}, 4), State({D: self.read(one)}, {}, {}, 4), {D: ("stamp", "z")})

    def test_told_otherwise_than_kept(self):
        one = self.made(x="A")
        first = self.comes_to(State({D: one}, {}, {}, 4), State({D: self.read(one)}, {}, {}, 4), {D: ("x",)})
        self.assertEqual(first.objects[D].attributes["x"], "a")
        # The world keeps it as it was, so it is told the same way again.
        self.comes_to(first, first, {})
        two = self.made(x="c")
        self.comes_to(State({D: two}, {}, {}, 4), State({D: two}, {}, {}, 4), {})

    def test_of_one_sort(self):
        pairs = ((1, True), (0, False), ((1,), (True,)), ({"a": 1}, {"a": True}), (None, False), ((), {}), ("1", 1))
        for kept, now in pairs:
            for old, new in ((kept, now), (now, kept)):
                one = self.made(w=old)
                self.world.alter(one.tag, "w", new)
                found = self.comes_to(State({D: one}, {}, {}, 0), State({D: self.read(one)}, {}, {}, 0), {D: ("w",)})
                self.assertEqual(repr(found.objects[D].attributes["w"]), repr(new))
                self.world.alter(one.tag, "w", copy.deepcopy(old))
                self.comes_to(State({D: one}, {}, {}, 0), State({D: one}, {}, {}, 0), {})

    def test_keys_in_another_order(self):
        one = self.made(z={"a": 1, "b": 2})
        self.world.alter(one.tag, "z", {"b": 2, "a": 1})
        self.comes_to(State({D: one}, {}, {}, 0), State({D: one}, {}, {}, 0), {})

    def test_attributes_that_only_one_of_them_has(self):
        one = self.made(y=1)
        told = self.world.read(one.tag)
        less = {name: told[name] for name in ("id", "stamp", "url", "y")}
        state = State({D: Object(one.tag, less, False, (), False)}, {}, {}, 0)
        self.comes_to(state, State({D: Object(one.tag, told, False, (), False)}, {}, {}, 0), {D: ("w", "x", "z")})
        state = State({D: Object(one.tag, {**told, "more": 1}, False, (), False)}, {}, {}, 0)
        self.comes_to(state, State({D: Object(one.tag, told, False, (), False)}, {}, {}, 0), {D: ("more",)})

    def test_the_rest_of_an_object_stays(self):
        tag = self.world.make("doc", {"y": 1})
        for tainted in (True, False):
            for first in (True, False):
                one = Object(tag, {}, tainted, NEEDS, first)
                found, _ = refreshed(State({D: one}, {(D, 1): one}, {}, 0), self.world)
                for new in (found.objects[D], found.deposed[(D, 1)]):
                    self.assertEqual(new, Object(tag, self.world.read(tag), tainted, NEEDS, first))

    def test_one_object_at_several_addresses(self):
        one = self.made(y=1)
        self.world.alter(one.tag, "z", 1)
        new = self.read(one)
        self.comes_to(State({D: one, E: one}, {(D, 1): one, (D, 2): new}, {}, 0),
                      State({D: new, E: new}, {(D, 1): new, (D, 2): new}, {}, 0),
                      {D: ("z",), E: ("z",), (D, 1): ("z",)})

    def test_refreshed_twice(self):
        one, two, three = self.made(x="A"), self.made(y=1), self.made(y=2)
        self.world.alter(two.tag, "y", 9)
        self.world.destroy(three.tag)
        state = State({D: one, E: two}, {(D, 1): three}, {"o": 1}, 7)
        first, drift = refreshed(state, self.world)
        self.assertEqual(drift, {D: ("x",), E: ("url", "y"), (D, 1): None})
        self.comes_to(first, first, {})
        self.comes_to(state, first, drift)

    def test_new_dicts(self):
        one = self.made(y={"a": ({"b": 1},)})
        state = State({D: one}, {}, {"o": {"a": 1}}, 0)
        found, _ = refreshed(state, self.world)
        found.objects[D].attributes["y"]["a"][0]["b"] = 2
        found.outputs["o"]["a"] = 2
        self.assertEqual(self.world.read(one.tag)["y"], {"a": ({"b": 1},)})
        self.assertEqual(state, State({D: one}, {}, {"o": {"a": 1}}, 0))
        self.assertEqual(one.attributes["y"], {"a": ({"b": 1},)})


if __name__ == "__main__":
    unittest.main()
