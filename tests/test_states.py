"""Points 3.3 and 4.3: objects and states, take_in, taint and untaint."""

import copy
import itertools
import unittest

import odd
from planfirst.errors import Gone, NotThere, Occupied, Owned, PlanError
from planfirst.kinds import Kind
from planfirst.states import Object, State, empty, taint, take_in, untaint
from planfirst.values import Unknown
from planfirst.worlds import World

NET = Kind("net", (("range", "wanted", True, {"A": "a"}),), (("id", ("id",)),))
WEB = Kind("web", (("net", "open", True, None),), (("id", ("id",)), ("stamp", ("mark",))))
KINDS = {"net": NET, "web": WEB}
N, S = ((), "net", "main", None), ((), "web", "shop", 0)
NEEDS = (((), "net", "main"),)


def tag(kind, number):
    return ("#", kind, number)


def thing(number=1, attributes=(), tainted=False, needs=(), first=False, kind="net"):
    return Object(tag(kind, number), dict(attributes), tainted, needs, first)


def state(objects=(), deposed=(), outputs=(), serial=0):
    return State(dict(objects), dict(deposed), dict(outputs), serial)


class Objects(unittest.TestCase):
    def test_values_as_passed(self):
        one = Object(tag("net", 3), {"range": "ten"}, True, NEEDS, False)
        self.assertEqual((one.tag, one.attributes, one.tainted, one.needs, one.first),
                         (tag("net", 3), {"range": "ten"}, True, NEEDS, False))
        self.assertEqual(Object(tag("net", 0), {}, False, (), True).tag, tag("net", 0))
        for passed, name in itertools.product(odd.ALL, ("tag", "tainted", "needs", "first")):
            told = {"tag": 1, "attributes": {}, "tainted": 2, "needs": 3, "first": 4, name: passed}
            self.assertIs(getattr(Object(**told), name), passed)

    def test_all_five_are_passed(self):
        self.assertRaises(TypeError, Object, tag("net", 1), {}, False, ())

    def test_copies_of_all_maps(self):
        def value():
            return {"a": {"b": 1}, "c": ({"d": ({"e": 1},)},), "f": 1}

        passed = value()
        one = Object(tag("net", 1), passed, False, (), False)
        passed["a"]["b"] = passed["c"][0]["d"][0]["e"] = passed["f"] = 2
        passed["c"][0]["g"] = passed["h"] = 3
        self.assertEqual(one.attributes, value())

    def test_nothing_is_changed(self):
        passed = {"a": {"b": ({"c": 1},)}}
        before = copy.deepcopy(passed)
        Object(tag("net", 1), passed, False, (), False)
        State({}, {}, passed, 0)
        self.assertEqual(passed, before)

    PLAIN = {"tag": tag("net", 1), "attributes": {"a": 1, "b": ()}, "tainted": False, "needs": NEEDS, "first": True}
    OTHERS = (
        ("tag", tag("net", 2)), ("tag", tag("web", 1)), ("attributes", {"a": 1}),
        ("attributes", {"a": 1, "b": (), "c": 1}), ("attributes", {"a": True, "b": ()}),
        ("attributes", {"a": 1, "b": ((),)}), ("attributes", {"a": 1, "c": ()}), ("attributes", {}), ("tainted", True),
        ("tainted", 0), ("needs", ()), ("needs", (*NEEDS, ((), "web", "x"))), ("needs", (((), "net", "core"),)),
        ("needs", ((("c",), "net", "main"),)), ("first", False), ("first", 1), ("tag", ("#", "net", True)),
    )

    def test_equality(self):
        self.assertEqual(Object(**self.PLAIN), Object(**copy.deepcopy(self.PLAIN)))
        self.assertFalse(Object(**self.PLAIN) != Object(**self.PLAIN))
        self.assertEqual(Object(**self.PLAIN), Object(**{**self.PLAIN, "attributes": {"b": (), "a": 1}}))
        made = [Object(**self.PLAIN), *[Object(**{**self.PLAIN, name: value}) for name, value in self.OTHERS]]
        for one, other in itertools.product(range(len(made)), repeat=2):
            self.assertIs(made[one] == made[other], one == other, (one, other))
            self.assertIs(made[one] != made[other], one != other, (one, other))

    def test_equality_with_other_classes(self):
        for one in (Object(**self.PLAIN), state({N: thing()}, serial=5)):
            for other in odd.ALL:
                self.assertIs(one == other, False)
                self.assertIs(other == one, False)


class States(unittest.TestCase):
    def test_values_as_passed(self):
        one = State({N: thing(1)}, {(N, 1): thing(2)}, {"o": (1, {"a": 2})}, 7)
        self.assertEqual(one.objects, {N: thing(1)})
        self.assertEqual(one.deposed, {(N, 1): thing(2)})
        self.assertEqual(one.outputs, {"o": (1, {"a": 2})})
        self.assertEqual(one.serial, 7)

    def test_empty(self):
        self.assertEqual((empty().objects, empty().deposed, empty().outputs, empty().serial), ({}, {}, {}, 0))
        self.assertEqual(empty(), State({}, {}, {}, 0))
        self.assertIsInstance(empty(), State)
        one, other = empty(), empty()
        self.assertIsNot(one.objects, other.objects)
        self.assertIs(type(empty().serial), int)

    def test_copies_of_all_dicts(self):
        def value():
            return {"a": {"b": 1}, "c": ({"d": ({"e": 1},)},)}

        objects, deposed, outputs = {N: thing(1)}, {(N, 1): thing(2)}, value()
        one = State(objects, deposed, outputs, 0)
        objects[S], deposed[(S, 1)] = thing(3), thing(4)
        del objects[N], deposed[(N, 1)]
        outputs["a"]["b"] = outputs["c"][0]["d"][0]["e"] = outputs["f"] = 2
        self.assertEqual(one, State({N: thing(1)}, {(N, 1): thing(2)}, value(), 0))
        # A state that is made of the dicts of another one has its own ones.
        other = State(one.objects, one.deposed, one.outputs, one.serial)
        for name in ("objects", "deposed", "outputs"):
            self.assertIsNot(getattr(one, name), getattr(other, name))
        self.assertIsNot(one.outputs["c"][0], other.outputs["c"][0])

    def test_equality(self):
        plain = {
            "objects": {N: thing(1), S: thing(2)}, "deposed": {(N, 1): thing(3)}, "outputs": {"o": 1, "p": {}},
            "serial": 1,
        }
        others = (
            ("objects", {N: thing(1)}), ("objects", {N: thing(1), S: thing(3)}),
            ("objects", {N: thing(2), S: thing(1)}), ("objects", {N: thing(1), ((), "web", "shop", False): thing(2)}),
            ("objects", {N: thing(1), ((), "web", "shop", 1): thing(2)}),
            ("objects", {N: thing(1, {"a": 1}), S: thing(2)}), ("objects", {N: thing(1, {"a": True}), S: thing(2)}),
            ("objects", {}), ("deposed", {}), ("deposed", {(N, 2): thing(3)}), ("deposed", {(N, True): thing(3)}),
            ("deposed", {(S, 1): thing(3)}), ("deposed", {(N, 1): thing(4)}), ("outputs", {}),
            ("outputs", {"o": True, "p": {}}), ("outputs", {"o": 1, "p": ()}), ("outputs", {"o": 1, "p": {}, "q": 1}),
            ("serial", 2), ("serial", True),
        )
        self.assertEqual(State(**plain), State(**copy.deepcopy(plain)))
        self.assertFalse(State(**plain) != State(**plain))
        turned = {name: dict(reversed(value.items())) for name, value in plain.items() if name != "serial"}
        self.assertEqual(State(**plain), State(**turned, serial=1))
        made = [State(**plain), *[State(**{**plain, name: value}) for name, value in others]]
        for one, other in itertools.product(range(len(made)), repeat=2):
            self.assertIs(made[one] == made[other], one == other, (one, other))
            self.assertIs(made[one] != made[other], one != other, (one, other))


class Case(unittest.TestCase):
    def setUp(self):
        self.world = World(KINDS)
        self.net = self.world.make("net", {"range": "A"})
        self.web = self.world.make("web", {"net": {"a": (1,)}})
        self.core = self.world.make("net", {"range": 1})

    def refused(self, error, name, told, deed, *passed):
        """Whether the deed is refused so, and changes neither a state nor the world."""
        before, things = copy.deepcopy(passed[0]), self.world.things()
        with self.subTest(deed=deed, passed=passed[1:]):
            with self.assertRaises(PlanError) as caught:
                deed(*passed)
            self.assertIs(type(caught.exception), error)
            self.assertEqual(repr(getattr(caught.exception, name)), repr(told))
            self.assertEqual((passed[0], self.world.things()), (before, things))


class TakingIn(Case):
    def test_as_it_is_read(self):
        for at, one, attributes in (
            (N, self.net, {"range": "a", "id": self.net}),
            (S, self.web, {"net": {"a": (1,)}, "id": self.web, "stamp": tag("web", 3)}),
            (((), "net", "any", None), self.core, {"range": 1, "id": self.core}),
            ((("c", "d"), "net", "x", "key"), self.core, {"range": 1, "id": self.core}),
        ):
            found = take_in(empty(), self.world, at, one)
            self.assertEqual(found, State({at: Object(one, attributes, False, (), False)}, {}, {}, 1))
            self.assertIs(found.objects[at].tainted, False)
            self.assertIs(found.objects[at].first, False)

    def test_the_rest_stays(self):
        old = state({S: thing(9, {"x": 1}, True, NEEDS, True)}, {(N, 3): thing(8)}, {"o": {"a": 1}}, 6)
        before = copy.deepcopy(old)
        found = take_in(old, self.world, N, self.net)
        new = Object(self.net, {"range": "a", "id": self.net}, False, (), False)
        self.assertEqual(found.objects, {**old.objects, N: new})
        self.assertEqual((found.deposed, found.outputs, found.serial), (old.deposed, old.outputs, 7))
        self.assertEqual(old, before)

    def test_where_only_a_deposed_one_is(self):
        found = take_in(state(deposed={(N, 1): thing(9)}), self.world, N, self.net)
        self.assertEqual((list(found.objects), list(found.deposed)), ([N], [(N, 1)]))

    def test_the_state_shares_nothing_with_the_world(self):
        found = take_in(empty(), self.world, S, self.web)
        self.world.alter(self.web, "net", 1)
        self.assertEqual(found.objects[S].attributes["net"], {"a": (1,)})

    def test_occupied_comes_first(self):
        old = state({N: thing(1)}, serial=1)
        for one in (self.net, self.core, self.web, tag("net", 99), *odd.ALL):
            self.refused(Occupied, "address", N, take_in, old, self.world, N, one)

    def test_gone(self):
        gone = self.world.make("net", {})
        self.world.destroy(gone)
        old = state({S: thing(99), ((), "net", "x", None): Object(gone, {}, False, (), False)})
        unlike = (self.web, tag("net", 99), tag("web", 1), tag("net", 3), ("#", "net", True), tag("net", 0))
        for one in (gone, *unlike, *odd.all_but([odd.TAG])):
            self.refused(Gone, "tag", one, take_in, old, self.world, N, one)
        for one in (self.net, self.core, tag("web", 3)):
            self.refused(Gone, "tag", one, take_in, old, self.world, ((), "web", "any", None), one)

    def test_owned(self):
        ordered = (
            ((), "net", "a", None), ((), "net", "a", 2), ((), "net", "a", 10), ((), "net", "a", "x"),
            ((), "net", "b", None), ((), "web", "a", 0), (("c",), "net", "a", None),
        )
        for number in range(1, 4):
            for some in itertools.permutations(ordered, number):
                least = next(at for at in ordered if at in some)
                for deposed in range(2 ** number):
                    there = {at: thing(1) for place, at in enumerate(some) if not deposed >> place & 1}
                    waiting = {(at, 3): thing(1) for place, at in enumerate(some) if deposed >> place & 1}
                    old = state({**there, S: thing(50)}, {**waiting, (N, 1): thing(60)})
                    self.refused(Owned, "address", least, take_in, old, self.world, N, self.net)

    def test_owned_at_the_address_itself(self):
        self.refused(Owned, "address", N, take_in, state(deposed={(N, 2): thing(1)}), self.world, N, self.net)

    def test_the_order_of_the_errors(self):
        old = state({N: thing(1)}, {(S, 1): thing(1)})
        self.refused(Occupied, "address", N, take_in, old, self.world, N, self.net)
        self.refused(Owned, "address", N, take_in, old, self.world, ((), "net", "x", None), self.net)
        self.refused(Gone, "tag", self.net, take_in, old, self.world, ((), "web", "x", None), self.net)
        self.world.destroy(self.net)
        self.refused(Gone, "tag", self.net, take_in, old, self.world, ((), "net", "x", None), self.net)

    def test_at_what_is_no_address(self):
        old = state({((), "net", "main", 1): thing(9), ((), "net", "main", 0): thing(8)})
        for at in (
            *odd.ALL, ((), "net", "main"), ((), "net", "main", True), ((), "net", "main", False),
            ((), "net", "main", 1.0), ((), "net", "main", -1), ((), "net", "main", []), ([], "net", "main", 1), ["net"],
            ((), "Net", "main", 1),
        ):
            self.refused(Gone, "tag", self.net, take_in, old, self.world, at, self.net)


class Tainting(Case):
    def test_marked(self):
        for tainted in (True, False):
            one = thing(1, {"a": {"b": 1}}, tainted, NEEDS, True)
            old = state({N: one, S: thing(2, tainted=tainted)}, {(N, 1): thing(3)}, {"o": 1}, 4)
            before = copy.deepcopy(old)
            for deed, mark in ((taint, True), (untaint, False)):
                new = thing(1, {"a": {"b": 1}}, mark, NEEDS, True)
                expected = State({**old.objects, N: new}, old.deposed, old.outputs, 5)
                found = deed(old, N)
                self.assertEqual(found, expected)
                self.assertIs(found.objects[N].tainted, mark)
                self.assertEqual(old, before)

    def test_not_there(self):
        one = ((), "net", "main", 1)
        old = state({N: thing(1), one: thing(4), ((), "net", "main", 0): thing(5)}, {(S, 1): thing(2)})
        for at in (S, (S, 1), (N, 1), ((), "net", "main"), ((), "net", "main", "x"), (("c",), "net", "main", None),
                   ((), "web", "main", None), ((), "net", "main", True), ((), "net", "main", False),
                   ((), "net", "main", 1.0), list(N), [N], ([], "net", "main", None), ((), "net", "main", []),
                   ((), ["net"], "main", None), *odd.ALL):
            for deed in (taint, untaint):
                self.refused(NotThere, "address", at, deed, old, at)
        self.assertEqual(taint(old, one).objects[one].tainted, True)

    def test_of_an_empty_state(self):
        for deed in (taint, untaint):
            self.refused(NotThere, "address", N, deed, empty(), N)

    def test_there_and_back(self):
        old = state({N: thing(1)})
        self.assertEqual(untaint(taint(old, N), N), state({N: thing(1)}, serial=2))


class Unknowns(unittest.TestCase):
    def test_a_state_of_unknown_things_is_equal_to_its_like(self):
        self.assertEqual(state(outputs={"o": Unknown()}), state(outputs={"o": Unknown()}))


if __name__ == "__main__":
    unittest.main()
