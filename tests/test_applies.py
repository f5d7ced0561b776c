"""Points 7.1 and 7.2: applies."""

import copy
import itertools
import unittest

import odd
from planfirst.applies import Outcome, apply
from planfirst.configs import Block, Call, Config, Move, Reading
from planfirst.errors import BadOrder, Ring, Stale
from planfirst.orders import ring, steps
from planfirst.plans import is_empty
from planfirst.states import Object, State, empty
from stand import Case, Stand, at, block_at, blocks, hold, net, of, param, say

LATER = of("x", "id")
# Come to be wrong, and False, as soon as the id of x is known.
WRONG_LATER = ("join", (LATER,))
FALSE_LATER = ("same", LATER, say(1))


def make(name, *more, **told):
    return ("make", at(name, *more, **told))


def change(name, *more, **told):
    return ("change", at(name, *more, **told))


def destroy(name, *more, **told):
    return ("destroy", at(name, *more, **told))


class Ahead(Case):
    """What is checked ahead of any step."""

    def ringed(self):
        stand = Stand(blocks(net("x"), net("y")))
        stand.put(at("x"), needs=(block_at("y"),))
        stand.put(at("y"), needs=(block_at("x"),))
        return stand

    def test_stale_then_ring_then_order(self):
        stand = self.ringed()
        found = stand.plan(Config())
        other = State({}, {}, {}, 7)
        told = Ring(ring(found))
        self.raises(Stale(7), apply, found, other, stand.world, order=())
        self.raises(told, apply, found, stand.state, stand.world, order=())
        self.raises(told, apply, found, stand.state, stand.world, until=0)
        self.assertEqual(len(stand.world.things()), 2)

    def test_stale(self):
        stand = Stand(blocks(net("x")))
        found = stand.plan(blocks(net("x"), net("y")))
        for serial in (0, 2, -1):
            self.raises(Stale(serial), apply, found, State({}, {}, {}, serial), stand.world)
        stand.apply(blocks(net("x"), net("z")))
        self.raises(Stale(2), apply, found, stand.state, stand.world)

    def test_orders(self):
        stand = Stand()
        found = stand.plan(blocks(net("x"), net("y", LATER)))
        good = (make("x"), make("y"))
        for order in ((), good[:1], good[::-1], (*good, make("z")), (*good, *good)):
            with self.assertRaises(BadOrder) as caught:
                apply(found, stand.state, stand.world, order=order)
            self.assertIsInstance(str(caught.exception), str)
        for thing in odd.ALL:
            if thing is not None:
                with self.assertRaises(BadOrder):
                    apply(found, stand.state, stand.world, order=thing)
        self.assertEqual(stand.world.things(), {})
        for order in (good, list(good)):
            one = stand.copy()
            self.assertEqual(one.do(found, order=order), {step: "done" for step in good})

    def test_an_order_is_kept(self):
        config = blocks(*[net(name) for name in "abc"])
        for order in itertools.permutations([make(name) for name in "abc"]):
            stand = Stand()
            stand.do(stand.plan(config), order=order)
            self.assertEqual([stand.tag(*step[1])[2] for step in order], [1, 3, 5])
        stand = Stand(config)
        self.assertEqual([stand.tag(name)[2] for name in "abc"], [1, 3, 5])

    def test_round_by_round(self):
        # c comes in the second round, though it is the least.
        stand = Stand(blocks(net("x"), net("c", LATER), net("y")))
        self.assertEqual([stand.tag(name)[2] for name in "xyc"], [1, 3, 5])


class Done(Case):
    def test_make(self):
        stand = Stand()
        ends = stand.apply(blocks(net("x", say(1), say("t")), hold("h", say("n"), LATER)))
        self.assertEqual(ends, {make("x"): "done", make("h", None, "hold"): "done"})
        tag, other = ("#", "net", 1), ("#", "hold", 3)
        told = {"f": 1, "a": "t", "c": "filled", "id": tag, "mark": ("#", "net", 2), "round": "<t>"}
        self.assertEqual(stand.state, State({
            at("x"): Object(tag, told, False, (), False),
            at("h", None, "hold"): Object(other, {"name": "n", "of": tag, "id": other}, False, (block_at("x"),), False),
        }, {}, {}, 1))
        self.assertEqual(stand.world.things()[tag], ("net", told))

    def test_as_given_and_not_as_it_is_told(self):
        stand = Stand(blocks(Block("read", "x", {"x": say("A"), "y": say("A")})))
        here = at("x", None, "read")
        found = stand.state.objects[here].attributes
        self.assertEqual((found["x"], found["y"], found["c"]), ("A", "A", "filled"))
        # A change keeps what was told of what it does not change.
        stand.apply(blocks(Block("read", "x", {"x": say("a"), "y": say("B")})))
        found = stand.state.objects[here].attributes
        self.assertEqual((found["x"], found["y"], found["c"]), ("a", "B", "own"))
        kept = stand.world.things()[stand.tag(*here)][1]
        self.assertEqual((kept["x"], kept["y"], kept["c"]), ("A", "B", "filled"))
        self.assertEqual(found["mark"], kept["mark"])
        stand.apply(blocks(Block("read", "x", {"x": say("A"), "y": say("B"), "c": say("filled")})))
        found = stand.state.objects[here].attributes
        self.assertEqual((found["x"], found["y"], found["c"]), ("A", "B", "filled"))

    def test_change(self):
        stand = Stand(blocks(net("x", say(1), say("t")), net("y")))
        tag = stand.tag("x")
        ends = stand.apply(blocks(net("x", say(1), say("u")), net("y")))
        self.assertEqual(ends, {change("x"): "done"})
        told = {"f": 1, "a": "u", "c": "filled", "id": tag, "mark": ("#", "net", 5), "round": "<u>"}
        self.assertEqual(stand.state.objects[at("x")], Object(tag, told, False, (), False))
        self.assertEqual((stand.world.things()[tag][1], stand.state.serial), (told, 2))
        # An attribute that is not wanted any more.
        stand.apply(blocks(net("x", say(1)), net("y")))
        self.assertEqual(stand.state.objects[at("x")].attributes["a"], None)
        self.assertEqual(stand.world.things()[tag][1]["round"], "<>")

    def test_a_change_that_comes_to_nothing(self):
        config = blocks(net("x", say(1)), net("y", a=("same", LATER, say(0))), net("z", a=of("y", "mark")))
        stand = Stand(config)
        before = stand.state.objects[at("y")]
        config = blocks(net("x", say(2)), *config.blocks[1:])
        ends = stand.apply(config)
        # z needs the mark of y, which stays as it is.
        self.assertEqual(ends, {
            destroy("x"): "done", make("x"): "done", change("y"): "nothing", change("z"): "nothing"})
        self.assertEqual(stand.state.objects[at("y")], before)

    def test_only_what_is_otherwise_is_changed(self):
        stand = Stand(blocks(hold("x", say("n"), say(1)), hold("y", say("m"))))
        # Others gave y the name of x: a change that gives no name says nothing of this.
        stand.world.alter(stand.tag("y", None, "hold"), "name", "n")
        ends = stand.apply(blocks(hold("x", say("n"), say(2)), hold("y", say("n"))))
        self.assertEqual(ends, {change("x", None, "hold"): "done"})

    def test_replace(self):
        stand = Stand(blocks(net("x", say(1))))
        ends = stand.apply(blocks(net("x", say(2))))
        self.assertEqual(ends, {destroy("x"): "done", make("x"): "done"})
        self.assertEqual((stand.tag("x"), list(stand.world.things())), (("#", "net", 3), [("#", "net", 3)]))
        self.assertEqual(stand.state.deposed, {})

    def test_first_replacement(self):
        stand = Stand(blocks(net("x", say(1))))
        found = stand.plan(blocks(net("x", say(2), first=True)))
        one = stand.copy()
        self.assertEqual(one.do(found, until=1), {make("x"): "done", destroy("x"): "open"})
        old = stand.state.objects[at("x")]
        self.assertEqual(one.state.deposed, {(at("x"), 1): old})
        self.assertEqual((one.tag("x"), one.state.objects[at("x")].first), (("#", "net", 3), True))
        self.assertEqual(stand.do(found), {make("x"): "done", destroy("x"): "done"})
        self.assertEqual((stand.state.deposed, list(stand.world.things())), ({}, [("#", "net", 3)]))
        # The next plan destroys what is deposed, and nothing else.
        ends = one.apply(blocks(net("x", say(2), first=True)))
        self.assertEqual((ends, one.state.deposed), ({("destroy", at("x"), 1): "done"}, {}))

    def test_a_number_one_more_than_the_greatest(self):
        stand = Stand(blocks(net("x", say(1)), net("y"), net("z")))
        stand.depose(at("y"), 5)
        objects, old = stand.state.objects, stand.state.deposed[(at("y"), 5)]
        stand.state = State({at("x"): objects[at("x")], at("z"): objects[at("z")]}, {(at("x"), 5): old}, {}, 1)
        stand.put(at("x"), needs=(block_at("x"),))
        found = stand.plan(blocks(net("x", say(2), first=True), net("z")))
        order = (make("x"), destroy("x"), ("destroy", at("x"), 5))
        one = stand.copy()
        one.do(found, order=order, until=1)
        self.assertEqual(set(one.state.deposed), {(at("x"), 5), (at("x"), 6)})
        # The step of the one that was deposed already means this one and no other.
        one = stand.copy()
        one.do(found, order=(make("x"), ("destroy", at("x"), 5), destroy("x")), until=2)
        self.assertEqual(one.state.deposed, {(at("x"), 6): stand.state.objects[at("x")]})
        one = stand.copy()
        one.do(found, order=order[::-1][:1] + order[:2], until=2)
        self.assertEqual(set(one.state.deposed), {(at("x"), 1)})
        self.assertEqual(set(stand.do(found).values()), {"done"})
        self.assertEqual(stand.state.deposed, {})
        # At its address: what is deposed elsewhere does not matter.
        stand = Stand(blocks(net("x", say(1)), net("y")))
        stand.depose(at("y"), 5)
        stand.put(at("x"), needs=(block_at("y"),))
        stand.do(stand.plan(blocks(net("x", say(2), first=True))), until=1)
        self.assertEqual(set(stand.state.deposed), {(at("x"), 1), (at("y"), 5)})

    def test_destroy(self):
        stand = Stand(blocks(net("x"), net("y", LATER)))
        ends = stand.apply(Config())
        self.assertEqual(ends, {destroy("x"): "done", destroy("y"): "done"})
        self.assertEqual((stand.state, stand.world.things()), (State({}, {}, {}, 2), {}))

    def test_one_that_is_gone_already_is_destroyed(self):
        stand = Stand(blocks(net("x"), net("y"), net("z", say(1))))
        found = stand.plan(blocks(net("y", a=say(1)), net("z", say(2))))
        for name in "xyz":
            stand.world.destroy(stand.tag(name))
        before = stand.state.objects[at("y")]
        ends = stand.do(found)
        self.assertEqual(ends, {destroy("x"): "done", change("y"): "failed", destroy("z"): "done", make("z"): "done"})
        self.assertEqual(stand.state.objects[at("y")], before)
        self.assertEqual(set(stand.state.objects), {at("y"), at("z")})

    def test_read(self):
        reading = Reading("net", "r", {"a": ("join", (say("t"), of("x", "a")))}, after=(("net", "x"),))
        config = blocks(net("x", a=say("u")), net("y", of("r", "ids"), of("r", "size")), net("w", a=say("tu")),
                        readings=(reading,), outputs=(("o", of("r", "size")),))
        stand = Stand()
        ends = stand.apply(config)
        self.assertEqual(ends[("read", block_at("r"))], "done")
        attributes = stand.state.objects[at("y")].attributes
        self.assertEqual((attributes["f"], attributes["a"]), ((stand.tag("w"),), 1))
        self.assertEqual((stand.state.outputs, stand.state.objects[at("y")].needs), ({"o": 1}, (block_at("x"),)))

    def test_a_reading_tells_what_stands_when_it_is_read(self):
        reading = Reading("net", "r", {}, after=(("net", "x"),))
        config = blocks(net("x", many=("count", say(3))), net("y", of("r", "size")), readings=(reading,))
        stand = Stand()
        stand.apply(config)
        self.assertEqual(stand.state.objects[at("y")].attributes["f"], 3)

    def test_keys_with_unknown_items(self):
        many = ("keys", ("map", (("k", LATER), ("l", say(2)))))
        stand = Stand(blocks(net("x"), net("y", ("own", "value"), ("own", "key"), many=many)))
        told = {key: stand.state.objects[at("y", key)].attributes for key in "kl"}
        self.assertEqual((told["k"]["f"], told["l"]["f"], told["k"]["a"]), (stand.tag("x"), 2, "k"))

    def test_through_calls(self):
        inner = Config(params=("p",), blocks=(net("y", param("p"), many=("count", say(2))),),
                       outputs=(("o", ("each", "net", "y", "f")),))
        config = blocks(net("x"), net("z", ("out", "c", "o")), calls=(Call("c", inner, {"p": LATER}),),
                        outputs=(("o", of("z", "f")),))
        stand = Stand(config)
        self.assertEqual(stand.state.outputs, {"o": (stand.tag("x"),) * 2})
        self.assertEqual(stand.state.objects[at("z")].needs, (block_at("x"), block_at("y", path=("c",))))
        self.assertTrue(is_empty(stand.plan(config)))

    def test_needs_and_first(self):
        reading = Reading("net", "r", {"a": LATER})
        config = blocks(net("x"), net("y", of("r", "size"), first=True), net("z", of("y", "f")), readings=(reading,))
        stand = Stand(config)
        told = {name: (stand.state.objects[at(name)].needs, stand.state.objects[at(name)].first) for name in "xyz"}
        self.assertEqual(told, {"x": ((), True), "y": ((block_at("x"),), True),
                                "z": ((block_at("x"), block_at("y")), False)})

    def test_needs_and_first_are_written_anew(self):
        stand = Stand(blocks(net("w"), net("x"), net("y"), net("z"), net("v", say(1))))
        after = {"after": (("net", "w"),), "first": True}
        config = blocks(net("w"), net("x", **after), net("y", a=say(1), **after), net("z", a=LATER, **after),
                        net("v", say(2), after=(("net", "w"),)))
        found = stand.plan(config)

        def told(fails=None, **more):
            one = stand.copy()
            one.do(found, fails=fails, **more)
            return [name for name in "vwxyz" if at(name) in one.state.objects and
                    (one.state.objects[at(name)].needs or one.state.objects[at(name)].first)]

        # w is first by what needs it now.
        self.assertEqual(told(), list("vwxyz"))
        self.assertEqual(told({change("y"): "before"}), list("vwxz"))
        self.assertEqual(told({make("v"): "before"}), list("wxyz"))
        self.assertEqual(told({make("v"): "behind"}), list("vwxyz"))
        self.assertEqual(told({destroy("v"): "before"}), list("wxyz"))
        # What was not gone through stays as it was, what has no deed does not.
        self.assertEqual(told(until=0), list("wx"))
        # Not what is not taken.
        one = stand.copy()
        one.do(one.plan(config, targets=(block_at("y"),)))
        self.assertEqual([one.state.objects[at(name)].first for name in "wxyz"], [True, False, True, False])
        # A change that comes to nothing counts.
        one = Stand(blocks(net("x", say(1)), net("y", a=FALSE_LATER)))
        ends = one.apply(blocks(net("x", say(2)), net("y", a=FALSE_LATER, first=True)))
        self.assertEqual((ends[change("y")], one.state.objects[at("y")].first), ("nothing", True))


class Failing(Case):
    def chain(self):
        """x, then y, then z; and w by itself."""
        return blocks(net("x"), net("y", LATER), net("z", of("y", "id")), net("w"))

    def test_make(self):
        stand = Stand()
        ends = stand.do(stand.plan(self.chain()), fails={make("x"): "before"})
        self.assertEqual(ends, {make("x"): "failed", make("y"): "left", make("z"): "left", make("w"): "done"})
        self.assertEqual((set(stand.state.objects), len(stand.world.things())), ({at("w")}, 1))
        stand = Stand()
        ends = stand.do(stand.plan(self.chain()), fails={make("y"): "behind"})
        self.assertEqual(ends, {make("x"): "done", make("y"): "failed", make("z"): "left", make("w"): "done"})
        thing = stand.state.objects[at("y")]
        self.assertEqual((thing.tainted, thing.needs, thing.attributes["f"]), (True, (block_at("x"),), stand.tag("x")))
        self.assertEqual(stand.world.read(thing.tag), thing.attributes)
        # The next plan replaces it.
        found = stand.plan(self.chain())
        self.assertEqual(found.reasons, {at("y"): (("tainted",),)})
        self.assertEqual(set(stand.do(found).values()), {"done"})
        self.assertTrue(is_empty(stand.plan(self.chain())))

    def test_change(self):
        stand = Stand(blocks(net("x", a=say(1)), net("y", a=of("x", "a"))))
        before = stand.state
        found = stand.plan(blocks(net("x", a=say(2)), net("y", a=of("x", "a"))))
        ends = stand.do(found, fails={change("x"): "before"})
        self.assertEqual(ends, {change("x"): "failed", change("y"): "left"})
        self.assertEqual(stand.state, before)

    def test_destroy(self):
        stand = Stand(blocks(net("x"), net("y", LATER)))
        before = stand.state
        ends = stand.do(stand.plan(Config()), fails={destroy("y"): "before"})
        self.assertEqual(ends, {destroy("y"): "failed", destroy("x"): "left"})
        self.assertEqual(stand.state, before)
        # Failing comes ahead of what is gone.
        found = stand.plan(Config())
        stand.world.destroy(stand.tag("y"))
        self.assertEqual(stand.copy().do(found, fails={destroy("y"): "before"})[destroy("y")], "failed")
        self.assertEqual(stand.do(found)[destroy("y")], "done")

    def test_destroy_in_use(self):
        stand = Stand(blocks(hold("h", say("h"), LATER), net("x")))
        stand.put(at("h", None, "hold"), needs=())
        held = hold("h", say("h"), of("y", "id"))
        found = stand.plan(blocks(held, net("y")))
        # The change of h is behind the making of y alone, so x is destroyed too early.
        ends = stand.do(found)
        self.assertEqual(ends[destroy("x")], "failed")
        self.assertIn(at("x"), stand.state.objects)
        self.assertEqual(stand.apply(blocks(held, net("y"))), {destroy("x"): "done"})

    def test_deposed(self):
        stand = Stand(blocks(net("x"), net("y")))
        stand.depose(at("x"), 1)
        found = stand.plan(blocks(net("y")))
        one = stand.copy()
        self.assertEqual(one.do(found, fails={("destroy", at("x"), 1): "before"}), {("destroy", at("x"), 1): "failed"})
        self.assertEqual(one.state, stand.state)
        self.assertEqual(stand.do(found), {("destroy", at("x"), 1): "done"})
        self.assertEqual((stand.state.deposed, len(stand.world.things())), ({}, 1))

    def test_read(self):
        reading = Reading("net", "r", {}, after=(("net", "x"),))
        config = blocks(net("x"), net("y", of("r", "size")), readings=(reading,),
                        outputs=(("o", of("r", "size")), ("p", say(1))))
        stand = Stand()
        ends = stand.do(stand.plan(config), fails={("read", block_at("r")): "before"})
        self.assertEqual(ends, {make("x"): "done", ("read", block_at("r")): "failed", make("y"): "left"})
        self.assertEqual(stand.state.outputs, {"p": 1})

    def test_single(self):
        config = blocks(hold("a", say("n")), hold("b", say("n")), net("z", of("b", "id", "hold")))
        stand = Stand()
        ends = stand.apply(config)
        self.assertEqual(ends, {make("a", None, "hold"): "done", make("b", None, "hold"): "failed", make("z"): "left"})
        self.assertEqual(set(stand.state.objects), {at("a", None, "hold")})
        stand = Stand(blocks(hold("a", say("n")), hold("b", say("m"))))
        before = stand.state
        self.assertEqual(stand.apply(blocks(hold("a", say("n")), hold("b", say("n")))),
                         {change("b", None, "hold"): "failed"})
        self.assertEqual(stand.state, before)

    def test_fails_without_effect(self):
        # Of a step that is left, or comes to nothing, or is none.
        config = blocks(net("x", say(1)), net("y", a=FALSE_LATER), net("z", of("w", "id")), net("w"))
        stand = Stand(config)
        config = blocks(net("x", say(2)), *config.blocks[1:3], net("w", say(1)))
        fails = {change("y"): "before", make("w"): "before", make("z"): "behind", make("q"): "before"}
        ends = stand.do(stand.plan(config), fails=fails)
        self.assertEqual((ends[change("y")], ends[make("w")], ends[make("z")]), ("nothing", "failed", "left"))
        self.assertNotIn(at("z"), stand.state.objects)

    def test_first_replacement(self):
        stand = Stand(blocks(net("x", say(1))))
        old = stand.state.objects[at("x")]
        found = stand.plan(blocks(net("x", say(2), first=True)))
        one = stand.copy()
        self.assertEqual(one.do(found, fails={make("x"): "before"}), {make("x"): "failed", destroy("x"): "left"})
        self.assertEqual((one.state, one.world.things()), (stand.state, stand.world.things()))
        one = stand.copy()
        self.assertEqual(one.do(found, fails={make("x"): "behind"}), {make("x"): "failed", destroy("x"): "left"})
        self.assertEqual(one.state.deposed, {(at("x"), 1): old})
        self.assertTrue(one.state.objects[at("x")].tainted)
        self.assertEqual(len(one.world.things()), 2)
        one = stand.copy()
        self.assertEqual(one.do(found, fails={destroy("x"): "before"}), {make("x"): "done", destroy("x"): "failed"})
        self.assertEqual((one.state.deposed, one.state.objects[at("x")].tainted), ({(at("x"), 1): old}, False))

    def test_first_replacement_of_a_single_one(self):
        stand = Stand(blocks(hold("x", say("n"))))
        before = stand.state
        found = stand.plan(blocks(hold("x", say("n"), first=True)), replace=(at("x", None, "hold"),))
        self.assertEqual(stand.do(found), {make("x", None, "hold"): "failed", destroy("x", None, "hold"): "left"})
        self.assertEqual(stand.state, before)

    def test_not_first_replacement(self):
        stand = Stand(blocks(net("x", say(1)), net("y", LATER)))
        found = stand.plan(blocks(net("x", say(2)), net("y", LATER)))
        one = stand.copy()
        self.assertEqual(one.do(found, fails={make("x"): "before"}), {
            destroy("y"): "done", destroy("x"): "done", make("x"): "failed", make("y"): "left"})
        self.assertEqual((one.state.objects, one.world.things()), ({}, {}))
        one = stand.copy()
        self.assertEqual(one.do(found, fails={destroy("x"): "before"}), {
            destroy("y"): "done", destroy("x"): "failed", make("x"): "left", make("y"): "left"})
        self.assertEqual(one.state.objects, {at("x"): stand.state.objects[at("x")]})

    def test_what_comes_to_be_wrong(self):
        wrong = [
            net("y", WRONG_LATER), net("y", ahead=FALSE_LATER), net("y", ahead=LATER), net("y", ahead=WRONG_LATER),
            net("y", many=("count", ("if", LATER, say(1), say(1)))),
            Block("must", "y", {"one": ("if", FALSE_LATER, say(1), say(None)), "two": say(1)}),
        ]
        for one in wrong:
            stand = Stand()
            ends = stand.apply(blocks(net("x"), one, net("z", after=((one.kind, "y"),))))
            self.assertEqual(sorted(ends.values()), ["done", "failed", "left"], one.attributes)
            self.assertEqual((set(stand.state.objects), len(stand.world.things())), ({at("x")}, 1))

    def test_what_was_known_ahead_is_not_asked_again(self):
        ahead = ("if", LATER, say(True), say(True))
        stand = Stand()
        self.assertEqual(set(stand.apply(blocks(net("x"), net("y", ahead=ahead))).values()), {"done"})

    def test_what_comes_to_be_right(self):
        true_later = ("if", FALSE_LATER, say(False), say(True))
        stand = Stand()
        ends = stand.apply(blocks(net("x"), net("y", ("if", FALSE_LATER, say(1), say(2)), ahead=true_later)))
        self.assertEqual((set(ends.values()), stand.state.objects[at("y")].attributes["f"]), ({"done"}, 2))

    def test_wrong_at_a_change(self):
        must = Block("must", "y", {"one": say(1), "two": say(1)})
        stand = Stand(blocks(net("x", say(1)), must, net("z")))
        config = blocks(net("x", say(2)), net("z", a=WRONG_LATER), Block("must", "y", {
            "one": ("if", FALSE_LATER, say(1), say(None)), "two": say(1)}))
        before = stand.state
        ends = stand.apply(config)
        self.assertEqual((ends[change("y", None, "must")], ends[change("z")]), ("failed", "failed"))
        for address in (at("z"), at("y", None, "must")):
            self.assertEqual(stand.state.objects[address], before.objects[address])

    def test_ignored_and_chosen_at_a_change(self):
        def config(f, a):
            return blocks(net("x", say(f)), Block("net", "y", {
                "a": LATER, "c": ("if", FALSE_LATER, say(1), say(None))}, ignored=a))

        stand = Stand(blocks(net("x", say(1)), Block("net", "y", {"a": say(0), "c": say("t")})))
        ends = stand.apply(config(2, ()))
        told = stand.state.objects[at("y")].attributes
        self.assertEqual((ends[change("y")], told["a"], told["c"]), ("done", stand.tag("x"), "t"))
        stand = Stand(blocks(net("x", say(1)), Block("net", "y", {"a": say(0), "c": say("t")})))
        ends = stand.apply(config(2, ("a",)))
        told = stand.state.objects[at("y")].attributes
        self.assertEqual((ends[change("y")], told["a"], told["c"]), ("nothing", 0, "t"))

    def test_chosen_at_a_making(self):
        stand = Stand()
        stand.apply(blocks(net("x"), Block("net", "y", {"c": ("if", FALSE_LATER, say(1), say(None))})))
        self.assertEqual(stand.state.objects[at("y")].attributes["c"], "filled")

    def test_a_reading_that_comes_to_be_wrong(self):
        reading = Reading("net", "r", {"a": WRONG_LATER})
        stand = Stand()
        ends = stand.apply(blocks(net("x"), net("y", of("r", "size")), readings=(reading,)))
        self.assertEqual(ends, {make("x"): "done", ("read", block_at("r")): "failed", make("y"): "left"})

    def test_named_in_another_branch(self):
        inner = Config(params=("p",), blocks=(net("y", ("if", say(True), say(1), param("p"))),))
        stand = Stand()
        ends = stand.apply(blocks(net("x"), calls=(Call("c", inner, {"p": WRONG_LATER}),)))
        self.assertEqual(ends[make("y", path=("c",))], "failed")

    def test_left_behind_what_is_left(self):
        stand = Stand(blocks(net("x"), net("y", LATER), net("z", of("y", "id"))))
        stand.put(at("z"), needs=(block_at("y"),))
        stand.put(at("y"), needs=(block_at("x"),))
        ends = stand.do(stand.plan(Config()), fails={destroy("z"): "before"})
        self.assertEqual(ends, {destroy("z"): "failed", destroy("y"): "left", destroy("x"): "left"})


class Until(Case):
    def test_so_many_steps(self):
        config = blocks(net("x"), net("y", LATER), net("z", of("y", "id")))
        order = [make(name) for name in "xyz"]
        for number in range(6):
            stand = Stand()
            ends = stand.do(stand.plan(config), until=number)
            self.assertEqual(ends, {step: "done" if place < number else "open" for place, step in enumerate(order)})
            self.assertEqual(len(stand.state.objects), min(number, 3))
            self.assertEqual(stand.state.serial, 1 if number else 0)

    def test_however_they_end(self):
        config = blocks(net("x"), net("y", LATER), net("z", of("y", "id")))
        stand = Stand()
        ends = stand.do(stand.plan(config), until=2, fails={make("x"): "before"})
        self.assertEqual(ends, {make("x"): "failed", make("y"): "left", make("z"): "open"})

    def test_with_an_order(self):
        stand = Stand()
        ends = stand.do(stand.plan(blocks(net("x"), net("y"))), until=1, order=[make("y"), make("x")])
        self.assertEqual(ends, {make("x"): "open", make("y"): "done"})


class Outputs(Case):
    def test_by_the_objects_that_stand(self):
        outputs = (("all", ("each", "net", "y", "a")), ("one", ("at", "net", "y", say(0), "a")),
                   ("two", ("at", "net", "y", say(1), "a")), ("many", ("size", ("each", "net", "y", "a"))),
                   ("x", of("x", "a")), ("said", say(1)))
        config = blocks(net("x", a=say(5)), net("y", a=("own", "index"), many=("count", say(2))), outputs=outputs)
        stand = Stand()
        stand.do(stand.plan(config), fails={make("y", 0): "before", make("x"): "behind"})
        self.assertEqual(stand.state.outputs, {"two": 1, "many": 2, "x": 5, "said": 1})
        stand.apply(config)
        self.assertEqual(stand.state.outputs, {"all": (0, 1), "one": 0, "two": 1, "many": 2, "x": 5, "said": 1})
        # A change that fails leaves what was.
        other = blocks(net("x", a=say(6)), *config.blocks[1:], outputs=outputs)
        stand.do(stand.plan(other), fails={change("x"): "before"})
        self.assertEqual(stand.state.outputs["x"], 5)
        # A replacement that fails leaves nothing, or the old object.
        for first, told in ((False, None), (True, 5)):
            other = blocks(net("x", say(1), say(7), first=first), *config.blocks[1:], outputs=outputs)
            one = stand.copy()
            one.do(one.plan(other), fails={make("x"): "before"})
            self.assertEqual(one.state.outputs.get("x"), told)

    def test_misfits_and_unknowns_are_left_out(self):
        outputs = (("w", WRONG_LATER), ("i", ("if", LATER, say(1), say(1))), ("o", say(1)), ("x", LATER),
                   ("t", ("tuple", (LATER,))))
        stand = Stand()
        found = stand.plan(blocks(net("x"), outputs=outputs))
        one = stand.copy()
        one.do(found, until=0)
        self.assertEqual((one.state.outputs, one.state.serial), ({"i": 1, "o": 1}, 1))
        stand.do(found)
        tag = stand.tag("x")
        self.assertEqual(stand.state.outputs, {"o": 1, "x": tag, "t": (tag,)})

    def test_in_arguments_and_calls(self):
        inner = Config(params=("p",), blocks=(net("y"),), outputs=(("o", param("p")), ("q", of("y", "a"))))
        config = blocks(net("x"), calls=(Call("c", inner, {"p": WRONG_LATER}),),
                        outputs=(("o", ("out", "c", "o")), ("q", ("out", "c", "q"))))
        stand = Stand()
        stand.apply(config)
        self.assertEqual(stand.state.outputs, {"q": None})

    def test_of_readings(self):
        now, later = Reading("net", "n", {}), Reading("net", "l", {}, after=(("net", "x"),))
        config = blocks(net("x"), readings=(now, later), outputs=(("n", of("n", "size")), ("l", of("l", "size"))))
        stand = Stand()
        found = stand.plan(config)
        one = stand.copy()
        one.do(found, until=1)
        self.assertEqual(one.state.outputs, {"n": 0})
        stand.do(found)
        self.assertEqual(stand.state.outputs, {"n": 0, "l": 1})

    def test_they_stay_with_targets(self):
        stand = Stand(blocks(net("x"), net("y"), outputs=(("o", say(1)),)))
        config = blocks(net("x", say(1)), net("y"), outputs=(("o", say(2)),))
        stand.apply(config, targets=(block_at("x"),))
        self.assertEqual((stand.state.outputs, stand.state.serial), ({"o": 1}, 2))
        stand.apply(config, targets=(block_at("x"),), destroy=True)
        self.assertEqual((stand.state.outputs, set(stand.state.objects)), ({"o": 1}, {at("y")}))

    def test_destroying_everything(self):
        config = blocks(net("x"), net("y", LATER), outputs=(("o", say(1)),))
        stand = Stand(config)
        one = stand.copy()
        one.do(one.plan(config, destroy=True), fails={destroy("y"): "before"})
        self.assertEqual((one.state.outputs, one.state.serial), ({}, 2))
        self.assertEqual(one.state.objects, stand.state.objects)
        stand.apply(config, destroy=True)
        self.assertEqual((stand.state, stand.world.things()), (State({}, {}, {}, 2), {}))

    def test_targets(self):
        config = blocks(net("a"), net("b", of("a", "id")), net("c"))
        stand = Stand()
        ends = stand.apply(config, targets=(block_at("b"),))
        self.assertEqual((set(ends), set(stand.state.objects)), ({make("a"), make("b")}, {at("a"), at("b")}))
        stand.apply(config)
        ends = stand.apply(config, targets=(at("a"),), destroy=True)
        self.assertEqual((set(ends), set(stand.state.objects)), ({destroy("a"), destroy("b")}, {at("c")}))


    def test_targets_and_readings(self):
        readings = (Reading("net", "r", {"a": of("a", "id")}), Reading("net", "s", {"a": of("c", "id")}))
        config = blocks(net("a"), net("b", of("r", "size")), net("c"), readings=readings)
        stand = Stand()
        ends = stand.apply(config, targets=(block_at("b"),))
        self.assertEqual(ends, {make("a"): "done", ("read", block_at("r")): "done", make("b"): "done"})


class Serials(Case):
    def test_one_more_if_anything_is_otherwise(self):
        config = blocks(net("x", a=say(1)), outputs=(("o", say(1)),))
        stand = Stand(config)
        for _ in range(2):
            stand.apply(config)
            self.assertEqual(stand.state.serial, 1)
        stand.apply(blocks(net("x", a=say(1)), outputs=(("o", say(True)),)))
        self.assertEqual(stand.state.serial, 2)
        stand.apply(blocks(net("x", a=say(1), first=True), outputs=(("o", say(True)),)))
        self.assertEqual((stand.state.serial, stand.state.objects[at("x")].first), (3, True))

    def test_moves_and_drift_count(self):
        stand = Stand(blocks(net("x")))
        stand.apply(blocks(net("y"), moves=(Move(("net", "x"), ("net", "y")),)))
        self.assertEqual((stand.state.serial, set(stand.state.objects)), (2, {at("y")}))
        stand.world.alter(stand.tag("y"), "a", 1)
        stand.apply(blocks(net("y", ignored=("a",))))
        self.assertEqual((stand.state.serial, stand.state.objects[at("y")].attributes["a"]), (3, 1))

    def test_deposed_count(self):
        stand = Stand(blocks(net("x")))
        stand.depose(at("x"), 1)
        stand.apply(Config())
        self.assertEqual(stand.state, State({}, {}, {}, 2))


class Outcomes(Case):
    def test_values(self):
        ends = {make("x"): "done"}
        found = Outcome(empty(), ends)
        self.assertEqual((found.state, found.ends), (empty(), ends))
        self.assertEqual(found, Outcome(empty(), {make("x"): "done"}))
        self.assertNotEqual(found, Outcome(empty(), {}))
        self.assertNotEqual(found, Outcome(State({}, {}, {}, 1), ends))
        self.assertNotEqual(Outcome(State({}, {}, {}, 1), ends), Outcome(State({}, {}, {}, True), ends))
        self.assertNotEqual(found, (empty(), ends))

    def test_nothing_that_is_passed_is_changed_but_the_world(self):
        stand = Stand(blocks(net("x", a=say({"k": 1})), outputs=(("o", of("x", "a")),)))
        config = blocks(net("x", a=say({"k": 2})), outputs=(("o", of("x", "a")),))
        found = stand.plan(config)
        fails, order = {make("z"): "before"}, list(steps(found))
        before = copy.deepcopy((found, stand.state, fails, order))
        outcome = apply(found, stand.state, stand.world, fails=fails, order=order)
        self.assertEqual((found, stand.state, fails, order), before)
        kept = copy.deepcopy(stand.world.things())
        outcome.state.outputs["o"]["k"] = 3
        outcome.state.objects[at("x")].attributes["a"]["k"] = 3
        outcome.state.objects.clear()
        outcome.ends.clear()
        self.assertEqual((found, stand.state), before[:2])
        self.assertEqual(stand.world.things(), kept)

    def test_all_steps_have_an_end(self):
        stand = Stand(blocks(net("x", say(1)), net("y", a=LATER), net("z")))
        found = stand.plan(blocks(net("x", say(2)), net("y", a=LATER), readings=(Reading("net", "r", {"a": LATER}),)))
        for until in range(7):
            one = stand.copy()
            self.assertEqual(set(one.do(found, until=until)), set(steps(found)))

    def test_it_goes_by_the_base_of_the_plan(self):
        stand = Stand(blocks(net("x"), net("y")))
        found = stand.plan(blocks(net("x"), net("z"), moves=(Move(("net", "y"), ("net", "z")),)))
        other = State({}, {}, {}, 1)
        outcome = apply(found, other, stand.world)
        self.assertEqual((set(outcome.state.objects), outcome.state.serial), ({at("x"), at("z")}, 2))


if __name__ == "__main__":
    unittest.main()
