"""Point 8.4: stages."""

import copy
import itertools
import unittest

from chance import Chance
from planfirst.configs import Block, Call, Config, Move, Reading
from planfirst.errors import BadConfig, BadMany, Lacking, Misfit, NoValue, PlanError, Refused, Unsure
from planfirst.staging import stages
from planfirst.states import State, taint
from stand import Case, Stand, at, block_at, blocks, net, of, param, say

WRONG = ("size", say(None))


def later(name, number=1, attribute="id", kind="net"):
    """A count that is known as soon as an attribute of a block is."""
    return ("count", ("if", ("same", of(name, attribute, kind), say(None)), say(0), say(number)))


def several(name, number=1):
    """The same of a block with a count."""
    return ("count", ("if", ("same", ("at", "net", name, say(0), "id"), say(None)), say(0), say(number)))


class Stages(Case):
    def told(self, config, stand=None, values=None):
        stand = stand or Stand()
        before = copy.deepcopy((config, stand.state, stand.world.things()))
        found = stages(config, values or {}, stand.kinds, stand.state, stand.world)
        self.assertEqual((config, stand.state, stand.world.things()), before)
        self.follow(config, stand, found, values)
        return found

    def follow(self, config, stand, found, values):
        """Whether the stages can be applied, one behind the other, and only the last one without targets."""
        one = stand.copy()
        one.values = values or {}
        for number, targets in enumerate(found):
            if targets is not None:
                with self.assertRaises(Unsure):
                    one.plan(config)
                self.assertEqual(targets, tuple(sorted(targets)))
            self.assertEqual(targets is None, number == len(found) - 1)
            ends = one.apply(config, targets=targets)
            self.assertNotIn("failed", ends.values())
        self.assertEqual(one.plan(config).deeds, {})

    def test_nothing_unsure(self):
        self.assertEqual(self.told(Config()), (None,))
        self.assertEqual(self.told(blocks(net("x"), net("y", of("x", "id")))), (None,))
        config = blocks(net("x"), net("y", many=later("x")))
        self.assertEqual(self.told(config, Stand(blocks(net("x")))), (None,))

    def test_one_stage(self):
        config = blocks(net("x"), net("y", many=later("x")))
        self.assertEqual(self.told(config), ((block_at("x"),), None))
        config = blocks(net("x"), net("w"), net("y", many=later("x")), net("z", ("each", "net", "y", "id")))
        self.assertEqual(self.told(config), ((block_at("w"), block_at("x")), None))

    def test_chains(self):
        names = ["b" + chr(97 + number) for number in range(15)]
        found = [net(names[0])]
        for number, name in enumerate(names[1:]):
            found.append(net(name, many=several(names[number]) if number else later(names[0])))
        told = self.told(blocks(*found[::-1]))
        self.assertEqual(told, (*[(block_at(name),) for name in names[:-1]], None))
        self.assertEqual(len(told), 15)

    def test_blocks_that_need_what_is_unsure(self):
        config = blocks(net("x"), net("y", many=later("x")), net("z", after=(("net", "y"),)), net("v"),
                        net("u", many=("count", ("size", ("each", "net", "y", "id")))), net("t", after=(("net", "v"),)))
        self.assertEqual(self.told(config), ((block_at("t"), block_at("v"), block_at("x")), None))
        # By a reading, too.
        reading = Reading("hold", "r", {}, after=(("net", "y"),))
        config = blocks(net("x"), net("y", many=later("x")), net("z", of("r", "size", "hold")), readings=(reading,))
        self.assertEqual(self.told(config), ((block_at("x"),), None))

    def test_through_calls(self):
        inner = Config(params=("p",), blocks=(
            net("y", many=("count", ("if", ("same", param("p"), say(None)), say(0), say(2)))),),
            outputs=(("o", ("at", "net", "y", say(0), "id")),))
        count = ("count", ("if", ("same", ("out", "c", "o"), say(None)), say(0), say(1)))
        config = blocks(net("x"), net("z", many=count), calls=(Call("c", inner, {"p": of("x", "id")}),))
        self.assertEqual(self.told(config), ((block_at("x"),), (block_at("y", path=("c",)),), None))

    def test_by_keys(self):
        many = ("keys", ("if", ("same", of("x", "id"), say(None)), say(()), say(("a", "b"))))
        self.assertEqual(self.told(blocks(net("x"), net("y", many=many))), ((block_at("x"),), None))
        kind_of_id = ("keys", ("tuple", (of("x", "c"),)))
        self.assertEqual(self.told(blocks(net("x"), net("y", many=kind_of_id))), ((block_at("x"),), None))

    def test_blocks_without_a_deed(self):
        stand = Stand(blocks(net("v"), net("w", a=say(1)), net("u")))
        config = blocks(net("v"), net("w", a=say(2)), net("x"), net("y", many=later("x")), net("u"))
        self.assertEqual(self.told(config, stand), ((block_at("w"), block_at("x")), None))

    def test_what_is_destroyed_and_deposed(self):
        stand = Stand(blocks(net("v", many=("count", say(3))), net("w"), net("u"), net("gone")))
        stand.depose(at("u"), 1, stand.state.objects[at("u")])
        config = blocks(net("v", many=("count", say(2))), net("w"), net("u"), net("x"), net("y", many=later("x")))
        # What is not written has no stage of its own.
        self.assertEqual(self.told(config, stand), ((block_at("u"), block_at("v"), block_at("x")), None))
        stand = Stand(blocks(net("x"), net("w")))
        objects = stand.state.objects
        stand.state = State({at("x"): objects[at("x")]}, {(at("x"), 1): objects[at("w")]}, {}, 1)
        config = blocks(net("x"), net("z", a=of("x", "mark")), net("y", many=later("z")))
        self.assertEqual(self.told(config, stand), ((block_at("x"), block_at("z")), None))

    def test_replaced_and_changed(self):
        stand = Stand(blocks(net("x", say(1)), net("w", a=say(1))))
        config = blocks(net("x", say(2)), net("y", many=later("x")), net("w", a=say(1)))
        self.assertEqual(self.told(config, stand), ((block_at("x"),), None))
        config = blocks(net("x", say(1)), net("y", many=later("w", attribute="mark")), net("w", a=say(2)))
        self.assertEqual(self.told(config, stand), ((block_at("w"),), None))
        config = blocks(net("x", say(1)), net("y", many=later("w")), net("w", a=say(2)))
        self.assertEqual(self.told(config, stand), (None,))
        stand.state = taint(stand.state, at("x"))
        config = blocks(net("x", say(1)), net("y", many=later("x")), net("w", a=say(1)))
        self.assertEqual(self.told(config, stand), ((block_at("x"),), None))

    def test_by_readings_that_are_put_off(self):
        reading = Reading("hold", "r", {}, after=(("net", "x"),))
        config = blocks(net("x"), net("y", many=("count", of("r", "size", "hold"))), readings=(reading,))
        self.assertEqual(self.told(config), ((block_at("x"),), None))
        stand = Stand(blocks(net("x", many=("count", say(2)))))
        config = blocks(net("x", many=("count", say(1))), net("y", many=("count", of("r", "size", "hold"))),
                        readings=(reading,))
        self.assertEqual(self.told(config, stand), ((block_at("x"),), None))

    def test_a_reading_is_no_target(self):
        # It is put off and read on the way, by what needs it.
        reading = Reading("hold", "r", {}, after=(("net", "x"),))
        config = blocks(net("x"), net("w", of("r", "size", "hold")), net("y", many=later("x")), readings=(reading,))
        self.assertEqual(self.told(config), ((block_at("w"), block_at("x")), None))

    def test_values_and_moves(self):
        config = Config(params=("p",), blocks=(net("x", param("p")), net("y", many=later("x"))),
                        moves=(Move(("net", "w"), ("net", "x")),))
        self.assertEqual(self.told(config, Stand(blocks(net("w"))), {"p": None}), (None,))
        self.assertEqual(self.told(config, Stand(blocks(net("w"))), {"p": 1}), ((block_at("x"),), None))

    def refused(self, error, config, stand=None):
        stand = stand or Stand()
        self.raises(error, stages, config, {}, stand.kinds, stand.state, stand.world)

    def test_other_errors(self):
        unsure = (net("x"), net("y", many=later("x")))
        self.refused(BadConfig(block_at("x", "none"), "kind"), blocks(*unsure, Block("none", "x", {})))
        self.refused(NoValue("p"), blocks(*unsure, params=("p",)))
        # Ahead of what is unsure, behind it, and only when it is sure.
        self.refused(Misfit(WRONG), blocks(*unsure, net("a", WRONG)))
        self.refused(Misfit(WRONG), blocks(*unsure, net("z", WRONG)))
        self.refused(Misfit(WRONG), blocks(net("x"), net("y", WRONG, many=later("x"))))
        self.refused(Misfit(WRONG), blocks(*unsure, outputs=(("o", WRONG),)))
        self.refused(Refused((at("z"),)), blocks(*unsure, net("z", ahead=say(False))))
        self.refused(BadMany(block_at("y")), blocks(net("x"), net("y", many=("count", of("x", "id")))))
        self.refused(BadMany(block_at("z")), blocks(*unsure, net("z", many=("count", say(-1)))))
        must = Block("must", "z", {"one": say(None), "two": say(1)})
        self.refused(Lacking(at("z", None, "must"), "one"), blocks(*unsure, must))
        stand = Stand(blocks(net("v", say(1))))
        self.refused(Refused((at("v"),)), blocks(*unsure, net("v", say(2), never=True)), stand)
        self.refused(Refused((at("v"),)), blocks(*unsure, net("v", say(2), never=True, after=(("net", "y"),))), stand)

    def test_pairs_that_are_alike(self):
        # What the world tells of x is never what is wanted, so its mark is never known.
        config = blocks(Block("read", "x", {"x": say("A"), "c": say(1)}), net("y", many=later("x", 1, "mark", "read")))
        self.refused(Unsure(block_at("y")), config)
        stand = Stand(blocks(config.blocks[0]))
        self.refused(Unsure(block_at("y")), config, stand)
        # Two that are unsure in turn: the last one of them is told.
        config = blocks(*config.blocks, net("a", many=later("x", 1, "mark", "read")))
        self.refused(Unsure(block_at("a")), config)

    def test_what_is_unsure_behind_a_stage(self):
        # a is unsure first, and sure as soon as x stands; y is unsure for ever.
        config = blocks(net("x"), net("a", many=later("x")), Block("read", "x", {"x": say("A"), "c": say(1)}),
                        net("y", many=later("x", 1, "mark", "read")))
        self.refused(Unsure(block_at("y")), config)

    def test_the_fewest(self):
        """No other targets come to a plan of everything with fewer applies."""
        long = 0
        for seed in range(200):
            config, stand = self.some(Chance(seed))
            try:
                found = self.told(config, stand)
            except PlanError:
                continue
            long += len(found) > 2
            self.assertEqual(self.fewest(config, stand, len(found) - 1), len(found) - 1, seed)
        self.assertGreater(long, 20)

    def some(self, chance):
        stand = Stand(blocks(*[net(name) for name in chance.some("abcd", 2)]))
        found = []
        for name in "abcde":
            others = chance.some([one for one in found], 2)
            after = tuple(("net", one.name) for one in others if chance.often(0.4))
            many = None
            if others and chance.often(0.6):
                many = several(others[0].name) if others[0].many else later(others[0].name)
            found.append(net(name, a=say(chance.random.choice((None, 1))), many=many, after=after))
        return blocks(*found), stand

    def fewest(self, config, stand, most):
        """The fewest applies with any targets behind which everything can be planned."""
        reached = [stand]
        targets = [block_at(name) for name in "abcde"]
        for number in range(most):
            further = []
            for one in reached:
                try:
                    one.plan(config)
                    return number
                except Unsure:
                    pass
                for size in range(1, 6):
                    for chosen in itertools.combinations(targets, size):
                        other = one.copy()
                        try:
                            other.apply(config, targets=chosen)
                        except Unsure:
                            continue
                        if other.state != one.state:
                            further.append(other)
            reached = further[-6:] + further[:6]
        return most


if __name__ == "__main__":
    unittest.main()
