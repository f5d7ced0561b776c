"""Point 5.3: causes and why."""

import unittest

import odd
from planfirst.configs import Call, Config, Reading
from planfirst.kinds import Kind
from planfirst.reasons import causes, why
from planfirst.states import taint
from stand import ID, KINDS, Case, Stand, at, block_at, blocks, net, of, param, say

X = at("x")


class Causes(Case):
    def causes(self, old, new, address=X, **more):
        return causes(Stand(old).plan(new, **more), address)

    def test_forced_and_differs(self):
        def config(f):
            return blocks(net("x", of("y", "id"), ("tuple", (of("y", "mark"), of("z", "id")))), net("y", f), net("z"))

        told = self.causes(config(say(1)), config(say(2)))
        self.assertEqual(told, ((("forced", "f"), (at("y"),)),))
        told = self.causes(blocks(net("x", a=of("y", "a")), net("y", a=say(1))),
                           blocks(net("x", a=of("y", "a")), net("y", a=say(2))))
        self.assertEqual(told, ((("differs", "a"), (at("y"),)),))
        # Nothing is behind what is said.
        self.assertEqual(self.causes(blocks(net("x", say(1))), blocks(net("x", say(2)))), ((("forced", "f"), ()),))
        self.assertEqual(self.causes(blocks(net("x", say(1))), blocks(net("x"))), ((("forced", "f"), ()),))

    def test_only_what_the_expression_of_this_attribute_refers_to(self):
        def config(number):
            f = ("if", ("same", of("y", "a"), say(number)), say(number), of("w", "a"))
            return blocks(net("x", f, of("z", "a")), net("y", a=say(number)), net("z", a=say(number)), net("w"))

        kinds = {**KINDS, "net": Kind("net", KINDS["net"].given[1:] + (("f", "open", False, None),), (ID,))}
        stand = Stand(config(1), kinds=kinds)
        self.assertEqual(causes(stand.plan(config(2)), X), (
            (("differs", "a"), (at("z"),)), (("differs", "f"), (at("y"),))))

    def test_instances_of_all_deeds(self):
        def config(*numbers):
            return blocks(net("x", ("size", ("each", "net", "y", "id"))),
                          net("y", a=("own", "value"), many=("keys", say(dict(numbers)))))

        stand = Stand(config(("a", 1), ("b", 1), ("c", 1)))
        stand.state = taint(stand.state, at("y", "b"))
        found = stand.plan(config(("a", 2), ("b", 1), ("d", 1), ("e", 1)))
        self.assertEqual(causes(found, X), (
            (("forced", "f"), (at("y", "a"), at("y", "b"), at("y", "c"), at("y", "d"), at("y", "e"))),))
        stand.depose(at("y", "c"), 1)
        found = stand.plan(config(("a", 1), ("b", 1), ("d", 1), ("e", 1)))
        self.assertEqual(causes(found, X)[0][1], (at("y", "b"), at("y", "d"), at("y", "e")))

    def test_readings(self):
        def config(number):
            reading = Reading("net", "r", {}, after=(("net", "y"),))
            return blocks(net("x", of("r", "size")), net("y", say(number)), readings=(reading,))

        stand = Stand(config(1))
        self.assertEqual(causes(stand.plan(config(2)), X), ((("forced", "f"), (block_at("r"),)),))

    def test_through_parameters_and_outputs(self):
        def config(number):
            inner = Config(params=("p",), blocks=(net("z", a=say(number)),), outputs=(
                ("o", ("tuple", (of("z", "a"), param("p")))), ("q", of("z", "f"))))
            middle = Config(params=("p",), calls=(Call("d", inner, {"p": param("p")}),), outputs=(
                ("o", ("out", "d", "o")), ("q", ("out", "d", "q"))))
            call = Call("c", middle, {"p": of("y", "a")})
            return blocks(net("x", ("out", "c", "o"), ("out", "c", "q")), net("y", a=say(number)), calls=(call,))

        self.assertEqual(self.causes(config(1), config(2)), (
            (("forced", "f"), (at("y"), at("z", path=("c", "d")))),))
        stand = Stand(config(1))
        stand.state = taint(stand.state, X)
        found = stand.plan(config(2))
        self.assertEqual(causes(found, X), ((("tainted",), ()),))

    def test_by(self):
        def config(a, f, *by):
            return blocks(net("x", replaced_by=by), net("y", say(f), say(a), many=("count", say(3))),
                          net("z", a=say(a)))

        by = (("net", "y"), ("net", "z", "a"), ("net", "y", "f"))
        told = self.causes(config(1, 1, *by), config(2, 1, *by))
        everything = tuple(at("y", index) for index in range(3))
        self.assertEqual(told, ((("by", by[0]), everything), (("by", by[1]), (at("z"),))))
        stand = Stand(config(1, 1, *by))
        stand.world.alter(stand.tag("y", 2), "a", 5)
        self.assertEqual(causes(stand.plan(config(1, 1, *by)), X), ((("by", by[0]), (at("y", 2),)),))
        stand.world.alter(stand.tag("y", 1), "f", 5)
        self.assertEqual(causes(stand.plan(config(1, 1, *by)), X), (
            (("by", by[0]), (at("y", 1), at("y", 2))), (("by", by[2]), (at("y", 1),))))

    def test_asked_and_tainted(self):
        stand = Stand(blocks(net("x", of("y", "id")), net("y")))
        stand.state = taint(stand.state, X)
        found = stand.plan(blocks(net("x", of("y", "id")), net("y")), replace=(X, at("y")))
        self.assertEqual(causes(found, X), ((("tainted",), ()), (("asked",), ())))
        self.assertEqual(causes(found, at("y")), ((("asked",), ()),))

    def test_in_the_scope_of_a_call(self):
        def config(number):
            inner = blocks(net("x", of("y", "a"), replaced_by=(("net", "y"),)), net("y", a=say(number)))
            return blocks(net("y", a=say(number)), calls=(Call("c", inner, {}),))

        here = at("y", path=("c",))
        self.assertEqual(self.causes(config(1), config(2), at("x", path=("c",))), (
            (("forced", "f"), (here,)), (("by", ("net", "y")), (here,))))

    def test_all_other_addresses(self):
        stand = Stand(blocks(net("x"), net("y")))
        stand.depose(at("y"), 1)
        found = stand.plan(blocks(net("x"), net("z"), readings=(Reading("net", "r", {"a": of("z", "id")}),)))
        for address in (X, at("z"), (at("y"), 1), at("q"), block_at("r"), block_at("x"), *odd.ALL):
            self.assertEqual(causes(found, address), ())
            self.assertEqual(why(found, address), (address,))


class Why(Case):
    def test_one_behind_the_other(self):
        def config(number):
            return blocks(net("x", of("y", "f")), net("y", of("z", "f")), net("z", say(number)), net("w"))

        found = Stand(config(1)).plan(config(2))
        self.assertEqual(why(found, X), (X, at("y"), at("z")))
        self.assertEqual(why(found, at("y")), (at("y"), at("z")))
        self.assertEqual(why(found, at("z")), (at("z"),))
        self.assertEqual(why(found, at("w")), (at("w"),))

    def test_a_shortest_way(self):
        def config(number):
            return blocks(net("x", ("tuple", (of("y", "f"), of("v", "f")))), net("y", of("z", "f")),
                          net("z", say(number)), net("v", say(number)))

        self.assertEqual(why(Stand(config(1)).plan(config(2)), X), (X, at("v")))

    def test_of_several_the_least(self):
        def both(*names):
            return ("tuple", tuple(of(name, "f") for name in names))

        def config(number):
            return blocks(net("x", both("c", "b")), net("b", both("z", "v")), net("c", both("u", "t")),
                          *[net(name, say(number)) for name in "tuvz"])

        found = Stand(config(1)).plan(config(2))
        self.assertEqual(why(found, X), (X, at("b"), at("v")))

        def config(number):
            return blocks(net("x", ("each", "net", "y", "f")), net("y", say(number), many=("count", say(12))))

        self.assertEqual(why(Stand(config(1)).plan(config(2)), X), (X, at("y", 0)))

    def test_of_several_reasons_the_least(self):
        def config(number):
            return blocks(net("x", of("z", "f"), replaced_by=(("net", "y"), ("net", "w", "f"), ("net", "v"))),
                          *[net(name, say(number)) for name in "zyvw"])

        found = Stand(config(1)).plan(config(2))
        self.assertEqual(why(found, X), (X, at("v")))
        self.assertEqual([addresses for _, addresses in causes(found, X)], [(at(name),) for name in "zywv"])

    def test_the_first_of_equal_ways_through_one_address(self):
        def config(number):
            return blocks(net("x", ("tuple", (of("d", "f"), of("c", "f")))), net("d", of("b", "f")),
                          net("c", of("b", "f")), net("b", say(number)))

        self.assertEqual(why(Stand(config(1)).plan(config(2)), X), (X, at("c"), at("b")))

    def test_by_a_made_one_a_reading_and_an_order_of_replacing(self):
        def config(number):
            reading = Reading("net", "r", {"a": of("z", "mark")})
            return blocks(net("x", replaced_by=(("net", "y"),)), net("y", a=of("r", "size")),
                          net("z", a=say(number)), readings=(reading,))

        found = Stand(config(1)).plan(config(2))
        self.assertEqual(why(found, X), (X, at("y"), block_at("r")))
        self.assertEqual(why(found, block_at("r")), (block_at("r"),))

    def test_many_ways(self):
        # Each of 13 layers refers to all three of the next one: far more ways than could be gone one by one.
        names = [[f"{one}{two}" for two in "abc"] for one in "abcdefghijklm"]

        def config(number):
            found = [net(name, say(number)) for name in names[-1]]
            for layer, further in zip(names, names[1:]):
                picked = ("pick", ("tuple", tuple(of(one, "f") for one in further)), say(0))
                found += [net(name, picked) for name in layer]
            return blocks(*found)

        found = Stand(config(1)).plan(config(2))
        self.assertEqual(why(found, at("ac")), (at("ac"), *[at(f"{one}a") for one in "bcdefghijklm"]))


if __name__ == "__main__":
    unittest.main()
