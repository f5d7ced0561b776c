"""Points 8.1 and 8.2: settling."""

import copy
import itertools
import random
import unittest

from chance import Nets
from planfirst.configs import Block, Config, Move, Reading
from planfirst.kinds import Kind
from planfirst.settling import alike, settles
from planfirst.states import Object, State, empty, taint
from planfirst.worlds import World
from stand import ID, KINDS, Case, Stand, at, block_at, blocks, hold, net, of, say

WRONG = ("size", say(None))
X, Y = at("x"), at("y")


def tag(number, kind="net"):
    return ("#", kind, number)


def world(*things, skip=0):
    """A world with objects of net; skip: so many numbers are told ahead of them."""
    found = World(KINDS)
    for _ in range(skip):
        found.destroy(found.make("must", {}))
    for thing in things:
        found.make("net", thing)
    return found


def thing(number, **more):
    told = {"tag": number if isinstance(number, tuple) else tag(number), "attributes": {}, "tainted": False,
            "needs": (), "first": False, **more}
    return Object(**told)


def state(objects=None, deposed=None, outputs=None, serial=1):
    return State(objects or {}, deposed or {}, outputs or {}, serial)


class Alike(Case):
    def held(self, told, one, other, first=None, second=None):
        """Both ways round, and each with itself."""
        first, second = first or world(), second or world()
        for left, right in (((one, first), (other, second)), ((other, second), (one, first))):
            self.assertIs(alike(*left, *right), told)
            self.assertIs(alike(*left, *left), True)

    def test_nothing(self):
        self.held(True, empty(), empty())
        self.held(True, state(serial=1), state(serial=2))

    def test_other_numbers_in_the_same_order(self):
        self.held(True, state({X: thing(1), Y: thing(2)}), state({X: thing(3), Y: thing(70)}))
        self.held(False, state({X: thing(1), Y: thing(2)}), state({X: thing(2), Y: thing(1)}))
        self.held(False, state({X: thing(1), Y: thing(2)}), state({X: thing(2), Y: thing(2)}))
        self.held(False, state({X: thing(1)}), state({Y: thing(1)}))
        self.held(False, state({X: thing(1)}), state())

    def test_kinds_are_kept(self):
        self.held(False, state({X: thing(tag(1))}), state({X: thing(tag(1, "web"))}))
        self.held(True, state({X: thing(tag(1, "web"))}), state({X: thing(tag(2, "web"))}))
        one = state({X: thing(tag(1, "a")), Y: thing(tag(2, "b"))})
        self.held(True, one, state({X: thing(tag(4, "a")), Y: thing(tag(9, "b"))}))
        # The order of the numbers counts over all kinds.
        self.held(False, one, state({X: thing(tag(9, "a")), Y: thing(tag(4, "b"))}))

    def test_all_places_of_tags(self):
        """Each place by itself, a Tag told the other way round there."""
        def told(*numbers):
            a, b, c, d, e, f = [tag(number) for number in numbers]
            return state({X: thing(a, attributes={"a": b, "b": (1, {"k": (c,)})})},
                         {(X, 1): thing(d, attributes={"a": {"k": e}})}, {"o": (f,)})

        for numbers in itertools.permutations(range(1, 7)):
            self.held(numbers == (1, 2, 3, 4, 5, 6), told(1, 2, 3, 4, 5, 6), told(*[3 * one for one in numbers]))
        self.held(False, told(1, 2, 3, 4, 5, 5), told(1, 2, 3, 4, 5, 6))
        self.held(True, told(1, 1, 3, 3, 2, 2), told(7, 7, 9, 9, 8, 8))

    def test_worlds_and_states_together(self):
        one, other = world({"a": 1}, {"a": 2}), world({"a": 1}, {"a": 2}, skip=5)
        self.held(True, state({X: thing(1), Y: thing(3)}), state({X: thing(6), Y: thing(8)}), one, other)
        self.held(False, state({X: thing(1), Y: thing(3)}), state({X: thing(8), Y: thing(6)}), one, other)
        self.held(False, state({X: thing(1), Y: thing(3)}), state({X: thing(6), Y: thing(7)}), one, other)
        self.held(True, state(), state(), one, other)

    def test_objects_of_worlds(self):
        self.held(False, state(), state(), world({"a": 1}), world({"a": True}))
        self.held(False, state(), state(), world({"a": 1}), world({"a": 1}, {}))
        self.held(False, state(), state(), world({"a": 1}, {"a": 2}), world({"a": 2}, {"a": 1}))
        self.held(True, state(), state(), world({"a": {"k": 1, "l": 2}}), world({"a": {"l": 2, "k": 1}}))
        # What is kept counts, not what is told.
        one, other = World(KINDS), World(KINDS)
        one.make("read", {"x": "A"})
        other.make("read", {"x": "a"})
        self.held(False, state(), state(), one, other)

    def test_the_order_of_making(self):
        one, other = World(KINDS), World(KINDS)
        for kinds, found in ((("net", "must"), one), (("must", "net"), other)):
            for kind in kinds:
                found.make(kind, {})
        self.held(False, state(), state(), one, other)

    def test_what_the_next_number_is_does_not_matter(self):
        one = world({})
        one.destroy(one.make("net", {}))
        self.held(True, state(), state(), one, world({}))

    def test_of_gone_objects_and_of_nobody(self):
        one, other = world({"a": tag(90)}), world({"a": tag(91)})
        self.held(True, state(), state(), one, other)
        self.held(True, state({X: thing(90)}), state({X: thing(91)}), one, other)
        self.held(False, state({X: thing(90)}), state({X: thing(90)}), one, other)
        self.held(False, state({X: thing(95)}), state({X: thing(90)}), one, other)
        self.held(True, state({X: thing(3)}), state({X: thing(4)}), one, other)
        self.held(False, state({X: thing(2)}), state({X: thing(3)}), one, other)
        # One that stands is another one than one of nobody.
        self.held(False, state(), state(), world({"a": tag(1)}), world({"a": tag(9)}))
        self.held(False, state(), state(), world({"a": tag(1, "web")}), world({"a": tag(1)}))

    def test_no_tags(self):
        # A tuple of this form with the number 0 is no Tag, nor is one that is longer.
        self.held(False, state({X: thing(tag(0))}), state({X: thing(tag(1))}))
        self.held(True, state({X: thing(tag(0))}), state({X: thing(tag(0))}))
        self.held(False, state(outputs={"o": ("#", "net", 1, 1)}), state(outputs={"o": ("#", "net", 2, 1)}))
        self.held(False, state(outputs={"o": ("#", "net", True)}), state(outputs={"o": ("#", "net", 1)}))
        self.held(False, state(outputs={"o": {"#": 1}}), state(outputs={"o": {"#": 2}}))

    def test_all_that_a_state_knows(self):
        one = {"attributes": {"a": 1}, "tainted": False, "needs": (block_at("z"),), "first": False}
        others = [{"attributes": {"a": True}}, {"attributes": {"a": 1, "b": None}}, {"tainted": True}, {"needs": ()},
                  {"first": True}, {"attributes": {}}]
        for more in others:
            self.held(False, state({X: thing(1, **one)}), state({X: thing(1, **{**one, **more})}))
            self.held(False, state(None, {(X, 1): thing(1, **one)}), state(None, {(X, 1): thing(1, **{**one, **more})}))
        self.held(False, state(None, {(X, 1): thing(1)}), state(None, {(X, 2): thing(1)}))
        self.held(False, state(None, {(X, 1): thing(1)}), state({X: thing(1)}))
        self.held(False, state(outputs={"o": 1}), state(outputs={"o": True}))
        self.held(False, state(outputs={"o": 1}), state(outputs={"p": 1}))
        self.held(True, state(outputs={"o": 1, "p": 2}), state(outputs={"p": 2, "o": 1}))
        self.held(True, state({X: thing(1), Y: thing(2)}), state({Y: thing(2), X: thing(1)}))

    def test_renumbered_by_chance(self):
        chance = random.Random(5)
        for _ in range(200):
            kinds = [chance.choice(("a", "b")) for _ in range(6)]
            numbers = sorted(chance.sample(range(1, 40), 6))
            others = sorted(chance.sample(range(1, 40), 6))
            spots = [chance.randrange(6) for _ in range(5)]
            if chance.random() < 0.3:
                chance.shuffle(others)

            def told(chosen):
                a, b, c, d, e = [tag(chosen[spot], kinds[spot]) for spot in spots]
                return state({X: thing(a, attributes={"a": (b,)})}, {(X, 1): thing(c)}, {"o": {"k": d}, "p": e})

            used = sorted(set(spots))
            same = [others[one] for one in used] == sorted(others[one] for one in used)
            self.held(same, told(numbers), told(others))

    def test_nothing_is_changed(self):
        one, its = state({X: thing(1, attributes={"a": {"k": tag(2)}})}), world({"a": {"k": tag(7)}})
        before = copy.deepcopy((one, its.things()))
        alike(one, its, one, its)
        self.assertEqual((one, its.things()), before)


class Going(Case):
    def told(self, config, stand=None, values=None):
        stand = stand or Stand()
        before = copy.deepcopy((config, stand.state, stand.world.things()))
        found = settles(config, values or {}, stand.kinds, stand.state, stand.world)
        self.assertEqual((config, stand.state, stand.world.things()), before)
        return found

    def walk(self, goals, start=0):
        """A configuration in which "a" of x is a number, and each plan wants the goal of the number that stands."""
        readings, value = [], say(start)
        for number, goal in enumerate(goals):
            name = "r" + chr(97 + number // 10) + chr(97 + number % 10)
            readings.append(Reading("net", name, {"a": say(number)}))
            value = ("if", ("same", of(name, "size"), say(1)), say(goal), value)
        return Config(blocks=(net("x", a=value),), readings=tuple(readings))

    def test_settled(self):
        self.assertEqual(self.told(Config()), ("settled", 0))
        self.assertEqual(self.told(blocks(net("x"))), ("settled", 1))
        self.assertEqual(self.told(blocks(net("x")), Stand(blocks(net("x")))), ("settled", 0))
        self.assertEqual(self.told(Config(), Stand(blocks(net("x")))), ("settled", 1))

    def test_notes_and_outputs_do_not_count(self):
        stand = Stand(blocks(net("x")))
        config = blocks(net("y"), moves=(Move(("net", "x"), ("net", "y")),), outputs=(("o", say(1)),))
        self.assertEqual(self.told(config, stand), ("settled", 0))

    def test_settled_behind_more(self):
        for number in range(2, 8):
            goals = [min(one + 1, number - 1) for one in range(number)]
            self.assertEqual(self.told(self.walk(goals)), ("settled", number))

    def test_rings(self):
        for length, begin in itertools.product((2, 3, 5), (0, 1, 3)):
            goals = [one + 1 for one in range(begin + length)]
            goals[-1] = begin
            self.assertEqual(self.told(self.walk(goals)), ("ring", begin + 1, length))

    def test_a_ring_of_one(self):
        config = blocks(Block("read", "x", {"x": say("A"), "c": say("t")}))
        self.assertEqual(self.told(config), ("ring", 1, 1))
        self.assertEqual(self.told(config, Stand(config)), ("ring", 0, 1))
        # What the world chose is told otherwise from the second apply on.
        config = blocks(Block("read", "x", {"x": say("A")}))
        self.assertEqual(self.told(config), ("ring", 2, 1))

    def test_a_ring_of_replacements(self):
        # Each replacement makes new Tags, in other numbers.
        kind = Kind("kind", (("x", "open", True, {"A": "a"}), ("y", "open", False, None)), (ID, ("m", ("mark",))))
        stand = Stand(kinds={"kind": kind})
        config = blocks(Block("kind", "x", {"x": say("A"), "y": of("w", "m", "kind")}), Block("kind", "w", {}))
        self.assertEqual(self.told(config, stand), ("ring", 1, 1))

    def test_up_to_sixty_applies(self):
        goals = [min(one + 1, 58) for one in range(59)]
        self.assertEqual(self.told(self.walk(goals)), ("settled", 59))
        goals = [one + 1 for one in range(59)]
        goals[-1] = 29
        self.assertEqual(self.told(self.walk(goals)), ("ring", 30, 30))

    def test_refused_at_once(self):
        cases = [
            (blocks(Block("none", "x", {})), "BadConfig"), (Config(params=("p",)), "NoValue"),
            (blocks(net("x", WRONG)), "Misfit"), (blocks(net("x", many=("count", say(21)))), "BadMany"),
            (blocks(net("x"), net("y", many=("count", of("x", "id")))), "Unsure"),
            (blocks(Block("must", "x", {"one": say(None), "two": say(1)})), "Lacking"),
            (blocks(net("x", ahead=say(False))), "Refused"),
        ]
        for config, name in cases:
            self.assertEqual(self.told(config), ("refused", 0, name))

    def test_refused_later(self):
        later = ("if", ("same", of("r", "size"), say(1)), WRONG, say(1))
        config = blocks(net("x", a=later), readings=(Reading("net", "r", {"a": say(1)}),))
        self.assertEqual(self.told(config), ("refused", 1, "Misfit"))
        goals = self.walk([1, 2, 3, 3])
        value = ("if", ("same", of("rad", "size"), say(1)), say(False), say(True))
        config = Config(blocks=(*goals.blocks, net("z", ahead=value)), readings=goals.readings)
        self.assertEqual(self.told(config), ("refused", 4, "Refused"))

    def test_refused_by_a_ring(self):
        stand = Stand(blocks(net("x"), net("y")))
        for name, other in ("xy", "yx"):
            stand.put(at(name), needs=(block_at(other),))
        self.assertEqual(self.told(Config(), stand), ("refused", 0, "Ring"))

    def test_refused_by_a_ring_of_replacements(self):
        # x is replaced as soon as something is read, and is first without what it needed.
        stand = Stand(blocks(net("w"), net("x", after=(("net", "w"),))))
        value = ("if", ("same", of("r", "size"), say(1)), say(1), say(None))
        config = blocks(net("x", value, first=True), net("w", value), readings=(Reading("net", "r", {"a": say(7)}),))
        self.assertEqual(self.told(config, stand), ("settled", 0))
        stand.world.make("net", {"a": 7})
        self.assertEqual(self.told(config, stand), ("refused", 0, "Ring"))

    def test_fails(self):
        single = blocks(hold("a", say("n")), hold("b", say("n")))
        self.assertEqual(self.told(single), ("fails", 1))
        wrong = blocks(net("x"), net("y", ("join", (of("x", "id"),))))
        self.assertEqual(self.told(wrong), ("fails", 1))
        self.assertEqual(self.told(blocks(net("y", ("join", (of("x", "id"),))), net("x"))), ("fails", 1))

    def test_fails_later(self):
        goals = self.walk([1, 2, 2])
        value = ("if", ("same", of("rac", "size"), say(1)), say("n"), say("m"))
        config = Config(blocks=(*goals.blocks, hold("a", say("n")), hold("b", value)), readings=goals.readings)
        self.assertEqual(self.told(config), ("fails", 4))

    def test_values(self):
        config = Config(params=("p",), blocks=(net("x", ("param", "p")),))
        stand = Stand(config, values={"p": 1})
        self.assertEqual(self.told(config, stand, {"p": 1}), ("settled", 0))
        self.assertEqual(self.told(config, stand, {"p": 2}), ("settled", 1))
        self.assertEqual(self.told(config, stand, {}), ("refused", 0, "NoValue"))

    def test_tainted_and_deposed(self):
        stand = Stand(blocks(net("x"), net("y")))
        stand.state = taint(stand.state, X)
        self.assertEqual(self.told(blocks(net("x"), net("y")), stand), ("settled", 1))
        stand.depose(at("y"), 1)
        self.assertEqual(self.told(blocks(net("x")), stand), ("settled", 1))

    def test_as_planning_and_applying_do_it(self):
        for seed in range(150):
            stand, plan = Nets(seed).plan(3)
            told = self.told(plan.config, stand)
            if told[0] == "settled":
                one = stand.copy()
                for number in range(told[1]):
                    self.assertNotEqual(one.plan(plan.config).deeds, {})
                    self.assertNotIn("failed", one.apply(plan.config).values())
                self.assertEqual(one.plan(plan.config).deeds, {})


if __name__ == "__main__":
    unittest.main()
