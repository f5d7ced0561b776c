"""Point 5.2: targets, and destroying everything."""

import unittest

from planfirst.configs import Call, Config, Move, Reading
from planfirst.errors import Misfit, Refused, Unsure
from planfirst.plans import plan
from planfirst.states import Object, State, empty
from planfirst.worlds import World
from stand import KINDS, Case, Stand, at, block_at, blocks, net, of, param, say

WRONG = ("size", say(None))


class Targets(Case):
    def taken(self, stand, config, *targets):
        return stand.plan(config, targets=targets).deeds

    def test_blocks_and_all_that_they_need(self):
        config = blocks(net("a"), net("b", of("a", "id")), net("c", of("b", "id")), net("d"),
                        readings=(Reading("net", "r", {"a": of("d", "id")}), Reading("net", "s", {})))
        stand = Stand()
        self.assertEqual(self.taken(stand, config), {})
        self.assertEqual(self.taken(stand, config, block_at("a")), {at("a"): "make"})
        self.assertEqual(self.taken(stand, config, block_at("b")), {at("a"): "make", at("b"): "make"})
        self.assertEqual(self.taken(stand, config, block_at("c"), block_at("d")),
                         {at(name): "make" for name in "abcd"})
        through = blocks(net("a"), net("b", of("r", "ids")), net("d"),
                         readings=(Reading("net", "r", {"a": of("d", "id")}), Reading("net", "s", {})))
        found = stand.plan(through, targets=(block_at("b"),))
        self.assertEqual(found.deeds, {at("b"): "make", at("d"): "make", block_at("r"): "read"})
        self.assertEqual(set(found.planned), {at("b"), at("d"), block_at("r")})

    def test_by_each_sort_of_reference(self):
        call = Call("c", Config(params=("p",), blocks=(net("y", param("p")),), outputs=(("o", of("y", "id")),)),
                    {"p": of("a", "id")})
        needing = [
            net("x", of("a", "id")), net("x", many=("count", ("size", ("tuple", (of("a", "id"),))))),
            net("x", ahead=("same", of("a", "id"), of("a", "id"))), net("x", after=(("net", "a"),)),
            net("x", replaced_by=(("net", "a"),)), net("x", replaced_by=(("net", "a", "id"),)),
            net("x", ("out", "c", "o")),
        ]
        for one in needing:
            deeds = self.taken(Stand(), blocks(net("a"), net("b"), one, calls=(call,)), block_at("x"))
            self.assertIn(at("a"), deeds)
            self.assertNotIn(at("b"), deeds)

    def test_nothing_else_is_reckoned(self):
        config = blocks(net("a"), net("b", WRONG, many=("count", WRONG)), outputs=(("o", WRONG),),
                        readings=(Reading("net", "r", {"a": WRONG}),))
        self.assertEqual(self.taken(Stand(), config, block_at("a")), {at("a"): "make"})
        self.raises(Misfit(WRONG), plan, config, {}, KINDS, empty(), World(KINDS), targets=(block_at("b"),))
        need = blocks(net("a", of("b", "id")), net("b", ahead=WRONG))
        self.raises(Misfit(WRONG), plan, need, {}, KINDS, empty(), World(KINDS), targets=(block_at("a"),))

    def test_nothing_else_is_destroyed(self):
        stand = Stand(blocks(net("a", many=("count", say(2))), net("b"), net("c"), net("d", say(1), never=True)))
        stand.depose(at("c"), 1)
        config = blocks(net("a", many=("count", say(1))), net("d", say(2), never=True))
        everything = {at("a", 1): "destroy", at("b"): "destroy", (at("c"), 1): "destroy"}
        self.assertEqual(self.taken(stand, config, block_at("a")), {at("a", 1): "destroy"})
        self.assertEqual(self.taken(stand, config, block_at("b")), {at("b"): "destroy"})
        self.assertEqual(self.taken(stand, config, block_at("c")), {(at("c"), 1): "destroy"})
        self.assertEqual(self.taken(stand, config, at("c")), {(at("c"), 1): "destroy"})
        self.assertEqual(self.taken(stand, config, block_at("a"), at("b"), at("c")), everything)
        self.raises(Refused((at("d"),)), plan, config, {}, KINDS, stand.state, stand.world, targets=(block_at("d"),))

    def test_instances(self):
        config = blocks(net("a"), net("x", ("own", "index"), of("a", "id"), many=("count", say(3))))
        stand = Stand()
        self.assertEqual(self.taken(stand, config, at("x", 1)), {at("a"): "make", at("x", 1): "make"})
        self.assertEqual(set(stand.plan(config, targets=(at("x", 1),)).planned), {at("a"), at("x", 1)})
        self.assertEqual(self.taken(stand, config, at("x", 1), at("x", 2)),
                         {at("a"): "make", at("x", 1): "make", at("x", 2): "make"})
        self.assertEqual(len(self.taken(stand, config, at("x", 1), block_at("x"))), 4)
        # Only this instance is reckoned, but how many there are is.
        late = ("if", ("same", ("own", "index"), say(0)), WRONG, say(1))
        self.assertEqual(self.taken(stand, blocks(net("x", late, many=("count", say(3)))), at("x", 1)),
                         {at("x", 1): "make"})
        wrong = blocks(net("x", many=("count", WRONG)))
        self.raises(Misfit(WRONG), plan, wrong, {}, KINDS, empty(), World(KINDS), targets=(at("x", 1),))
        unsure = blocks(net("a"), net("x", many=("count", of("a", "id"))))
        self.raises(Unsure(block_at("x")), plan, unsure, {}, KINDS, empty(), World(KINDS), targets=(at("x", 1),))

    def test_needed_whole_though_targeted_in_part(self):
        config = blocks(net("x", many=("count", say(3))), net("y", ("each", "net", "x", "id")))
        self.assertEqual(len(self.taken(Stand(), config, at("x", 1))), 1)
        self.assertEqual(len(self.taken(Stand(), config, at("x", 1), block_at("y"))), 4)

    def test_beyond_the_count(self):
        config = blocks(net("a"), net("x", of("a", "id"), many=("count", say(2))))
        # It counts as written: what its block needs is taken, though nothing is there to make.
        self.assertEqual(self.taken(Stand(), config, at("x", 7)), {at("a"): "make"})
        self.assertEqual(self.taken(Stand(), config, at("x", "k")), {at("a"): "make"})
        single = blocks(net("a"), net("x", of("a", "id")))
        self.assertEqual(self.taken(Stand(), single, at("x", 0)), {at("a"): "make"})
        stand = Stand(blocks(net("a"), net("x", of("a", "id"), many=("count", say(9)))))
        self.assertEqual(self.taken(stand, config, at("x", 7)), {at("x", 7): "destroy"})
        never = blocks(net("a"), net("x", of("a", "id"), many=("count", say(2)), never=True))
        self.raises(Refused((at("x", 7),)), plan, never, {}, KINDS, stand.state, stand.world, targets=(at("x", 7),))

    def test_what_is_nothing(self):
        stand = Stand(blocks(net("a"), net("b")))
        config = blocks(net("a", say(1)))
        for target in (block_at("z"), at("z"), at("b", 0), block_at("b", "hold"), block_at("b", path=("c",))):
            self.assertEqual(self.taken(stand, config, target), {})
            self.assertEqual(self.taken(stand, config, target, block_at("b")), {at("b"): "destroy"})
        self.assertEqual(self.taken(stand, config, at("a", 5)), {})

    def test_behind_moves(self):
        stand = Stand(blocks(net("a"), net("b")))
        config = blocks(net("c", say(1)), moves=(Move(("net", "a"), ("net", "c")), Move(("net", "b"), ("net", "d"))))
        self.assertEqual(self.taken(stand, config, block_at("a")), {})
        self.assertEqual(self.taken(stand, config, block_at("b")), {})
        self.assertEqual(self.taken(stand, config, block_at("d")), {at("d"): "destroy"})
        self.assertEqual(self.taken(stand, config, block_at("c")), {at("c"): "replace"})

    def test_in_calls(self):
        inner = blocks(net("x"), net("y"))
        config = blocks(net("x"), calls=(Call("c", inner, {}),))
        self.assertEqual(self.taken(Stand(), config, block_at("x", path=("c",))), {at("x", path=("c",)): "make"})
        self.assertEqual(self.taken(Stand(), config, block_at("x")), {at("x"): "make"})

    def test_outputs_stay(self):
        config = blocks(net("a"), outputs=(("o", say(1)),))
        stand = Stand(config)
        other = blocks(net("a", say(1)), outputs=(("o", say(2)), ("p", say(3))))
        self.assertEqual(stand.plan(other, targets=(block_at("a"),)).outputs, {"o": 1})
        self.assertEqual(stand.plan(other).outputs, {"o": 2, "p": 3})
        self.assertEqual(stand.plan(other, targets=(block_at("a"),)).targets, (block_at("a"),))

    def test_base_is_the_whole_state(self):
        stand = Stand(blocks(net("a"), net("b")))
        found = stand.plan(Config(), targets=(block_at("a"),))
        self.assertEqual(set(found.base.objects), {at("a"), at("b")})

    def test_a_reading_is_put_off_by_what_is_taken(self):
        stand = Stand(blocks(net("a", many=("count", say(2)))))
        reading = Reading("net", "r", {}, after=(("net", "a"),))
        config = blocks(net("a", many=("count", say(1))), net("x", of("r", "size")), readings=(reading,))
        self.assertEqual(self.taken(stand, config, block_at("x")),
                         {at("a", 1): "destroy", block_at("r"): "read", at("x"): "make"})


class Destroying(Case):
    def chain(self):
        """a, b behind a, c behind b, d by itself."""
        return blocks(net("a"), net("b", of("a", "id")), net("c", of("b", "id")), net("d"),
                      outputs=(("o", of("a", "id")),), readings=(Reading("net", "r", {"a": of("a", "id")}),))

    def test_everything(self):
        stand = Stand(self.chain())
        stand.depose(at("d"), 3)
        found = stand.plan(self.chain(), destroy=True)
        self.assertEqual(found.deeds, {at("a"): "destroy", at("b"): "destroy", at("c"): "destroy",
                                       (at("d"), 3): "destroy"})
        self.assertEqual((found.planned, found.reasons, found.outputs, found.clears), ({}, {}, {}, True))
        self.assertEqual(Stand().plan(self.chain(), destroy=True).deeds, {})

    def test_nothing_is_reckoned(self):
        stand = Stand(blocks(net("a")))
        wrong = blocks(net("a", WRONG, ahead=say(False)), net("b", many=("count", WRONG)), outputs=(("o", WRONG),))
        self.assertEqual(stand.plan(wrong, destroy=True).deeds, {at("a"): "destroy"})
        self.assertEqual(stand.plan(wrong, destroy=True, targets=(block_at("a"),)).deeds, {at("a"): "destroy"})

    def test_targets_and_all_whose_kept_needs_name_them(self):
        stand = Stand(self.chain())
        told = {"a": "abc", "b": "bc", "c": "c", "d": "d"}
        for name, gone in told.items():
            for target in (block_at(name), at(name)):
                found = stand.plan(self.chain(), destroy=True, targets=(target,))
                self.assertEqual(found.deeds, {at(one): "destroy" for one in gone})
                self.assertEqual((found.outputs, found.planned), (stand.state.outputs, {}))
        # What is written does not matter, what is kept does.
        found = stand.plan(blocks(net("d", of("a", "id")), net("a")), destroy=True, targets=(block_at("a"),))
        self.assertEqual(set(found.deeds), {at(name) for name in "abc"})
        self.assertEqual(stand.plan(self.chain(), destroy=True, targets=()).deeds, {})
        self.assertEqual(stand.plan(self.chain(), destroy=True, targets=(block_at("z"), at("a", 1))).deeds, {})

    def test_again_and_again(self):
        # c needs b and b needs a, and neither tells more than that.
        stand = Stand(self.chain())
        stand.put(at("c"), needs=(block_at("b"),))
        found = stand.plan(Config(), destroy=True, targets=(block_at("a"),))
        self.assertEqual(set(found.deeds), {at(name) for name in "abc"})

    def test_an_instance_alone(self):
        config = blocks(net("a", many=("count", say(3))), net("b", ("each", "net", "a", "id")))
        stand = Stand(config)
        found = stand.plan(config, destroy=True, targets=(at("a", 1),))
        self.assertEqual(found.deeds, {at("a", 1): "destroy", at("b"): "destroy"})

    def test_deposed(self):
        stand = Stand(self.chain())
        stand.depose(at("b"), 1)
        # The deposed one needs a, and is of the block that c needs.
        found = stand.plan(Config(), destroy=True, targets=(block_at("a"),))
        self.assertEqual(found.deeds, {at("a"): "destroy", (at("b"), 1): "destroy", at("c"): "destroy"})
        found = stand.plan(Config(), destroy=True, targets=(at("b"),))
        self.assertEqual(found.deeds, {(at("b"), 1): "destroy", at("c"): "destroy"})
        found = stand.plan(Config(), destroy=True, targets=(block_at("d"),))
        self.assertEqual(found.deeds, {at("d"): "destroy"})

    def test_never(self):
        stand = Stand(self.chain())
        config = blocks(net("c", never=True), net("a", never=True), net("d", never=True))
        passed = (config, {}, KINDS, stand.state, stand.world)
        self.raises(Refused((at("a"), at("c"), at("d"))), plan, *passed, destroy=True)
        self.raises(Refused((at("c"),)), plan, *passed, destroy=True, targets=(block_at("b"),))
        self.assertEqual(set(stand.plan(blocks(net("d", never=True)), destroy=True, targets=(at("b"),)).deeds),
                         {at("b"), at("c")})

    def test_moved_and_refreshed(self):
        stand = Stand(self.chain())
        stand.world.destroy(stand.tag("d"))
        found = stand.plan(blocks(moves=(Move(("net", "a"), ("net", "z")),)), destroy=True)
        self.assertEqual(set(found.deeds), {at("z"), at("b"), at("c")})
        self.assertEqual((found.notes, found.drift), (((at("a"), at("z"), True),), {at("d"): None}))

    def test_tainted_and_of_no_written_kind(self):
        things = {at("x", 0): Object(("#", "net", 1), {}, True, (), False)}
        world = World(KINDS)
        world.make("net", {})
        found = plan(Config(), {}, KINDS, State(things, {}, {}, 4), world, destroy=True)
        self.assertEqual((found.deeds, found.serial), ({at("x", 0): "destroy"}, 4))


if __name__ == "__main__":
    unittest.main()
