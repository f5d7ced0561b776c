"""Points 5.1 and 5.3: plans."""

import copy
import unittest

from planfirst.configs import Block, Call, Config, Move, Reading
from planfirst.errors import BadConfig, BadMany, Lacking, Misfit, NoValue, Refused, Unsure
from planfirst.kinds import Kind
from planfirst.plans import Plan, is_empty, plan
from planfirst.states import State, empty, taint
from planfirst.values import Unknown, is_known
from planfirst.worlds import World
from stand import ANY, ID, KINDS, Case, Stand, at, block_at, blocks, hold, net, of, param, say

WRONG = ("size", say(None))
WRONG_TOO = ("size", say(True))
# Unknown in a plan, and no bool behind it.
LATER = of("x", "id")


def must(name, one=say(1), two=say(2), **more):
    return Block("must", name, {"one": one, "two": two}, **more)


class Checks(Case):
    """What is looked at ahead of everything, and the order of errors."""

    def refused(self, error, config, values=None, stand=None, **more):
        stand = stand or Stand()
        self.raises(error, plan, config, values or {}, stand.kinds, stand.state, stand.world, **more)

    def test_the_configuration_first(self):
        bad = Config(params=("p",), blocks=(Block("none", "a", {}),))
        self.refused(BadConfig(((), "none", "a"), "kind"), bad)
        self.refused(BadConfig(((), "none", "a"), "kind"), bad, {"q": 1})
        self.refused(BadConfig(((), "none", "a"), "kind"), bad, destroy=True)
        self.refused(BadConfig(((), "none", "a"), "kind"), bad, targets=())

    def test_values_of_all_params(self):
        config = Config(params=("b", ("c", 1), "a"), blocks=(net("x", WRONG),))
        self.refused(NoValue("b"), config)
        self.refused(NoValue("b"), config, {"a": 1, "zz": 1, "aa": 2})
        self.refused(NoValue("a"), config, {"b": 1, "c": 1})
        self.refused(NoValue("aa"), config, {"zz": 1, "a": 1, "b": 2, "aa": 2})
        self.refused(Misfit(WRONG), config, {"a": None, "b": None})
        self.refused(NoValue("a"), config, {"b": 1}, destroy=True)
        self.refused(NoValue("aa"), config, {"b": 1, "a": 1, "aa": 1}, targets=())

    def test_values_of_no_param(self):
        for thing in (5, None, True, ("p",), "P", ""):
            self.refused(NoValue(thing), Config(), {thing: 1})

    def test_defaults_stand_where_none_is_passed(self):
        config = Config(params=(("p", 1), ("q", {"k": 2})), blocks=(net("x", param("p"), param("q")),))
        found = Stand().plan(config).planned[at("x")]
        self.assertEqual((found["f"], found["a"]), (1, {"k": 2}))
        found = Stand(values={"p": None}).plan(config).planned[at("x")]
        self.assertEqual((found["f"], found["a"]), (None, {"k": 2}))

    def test_block_by_block(self):
        # Each fault by itself, and all faults of blocks that come later with it.
        faults = [
            (must("a", many=("count", WRONG)), Misfit(WRONG)),
            (must("b", many=("count", say(21))), BadMany(((), "must", "b"))),
            (must("c", ahead=say(1)), Misfit(say(1))),
            (must("d", ahead=say(False)), Refused((at("d", None, "must"),))),
            (must("e", one=WRONG), Misfit(WRONG)),
            (must("f", two=say(None)), Lacking(at("f", None, "must"), "two")),
        ]
        for number, (_, error) in enumerate(faults):
            self.refused(error, blocks(*[one for one, _ in faults[number:]], outputs=(("o", WRONG_TOO),)))
            self.refused(error, blocks(*[one for one, _ in faults[number:][::-1]], outputs=(("o", WRONG_TOO),)))
        self.refused(Misfit(WRONG_TOO), blocks(outputs=(("p", WRONG_TOO), ("o", WRONG))))

    def test_within_a_block(self):
        # Many, ahead, all attributes, what is not given; the faults of the first instances first.
        many, bad, no = ("count", WRONG), ("count", say(-1)), say(None)
        self.refused(Misfit(WRONG), blocks(must("a", WRONG_TOO, many=many, ahead=WRONG_TOO)))
        self.refused(BadMany(((), "must", "a")), blocks(must("a", WRONG_TOO, many=bad, ahead=WRONG_TOO)))
        self.refused(Misfit(WRONG_TOO), blocks(must("a", WRONG, no, ahead=WRONG_TOO)))
        self.refused(Misfit(say(None)), blocks(must("a", WRONG, no, ahead=no)))
        self.refused(Refused((at("a", None, "must"),)), blocks(must("a", WRONG, no, ahead=say(False))))
        self.refused(Misfit(WRONG), blocks(must("a", no, WRONG)))
        self.refused(Misfit(WRONG), blocks(must("a", WRONG, WRONG_TOO)))
        self.refused(Misfit(WRONG), blocks(Block("must", "a", {"two": WRONG_TOO, "one": WRONG})))
        self.refused(Lacking(at("a", None, "must"), "one"), blocks(must("a", no, no)))
        self.refused(Lacking(at("a", None, "must"), "two"), blocks(must("a", say(1), no)))

    def test_instance_by_instance(self):
        index = ("own", "index")
        ahead = ("same", index, say(0))
        late = ("if", ("same", index, say(1)), WRONG, say(1))
        self.refused(Refused((at("a", 1, "must"),)), blocks(must("a", late, many=("count", say(3)), ahead=ahead)))
        late = ("if", ("same", index, say(0)), WRONG, say(1))
        self.refused(Misfit(WRONG), blocks(must("a", late, many=("count", say(3)), ahead=ahead)))
        lacking = ("if", ("same", ("own", "key"), say("b")), say(None), say(1))
        keys = ("keys", say(("c", "b", "a")))
        self.refused(Lacking(at("a", "b", "must"), "one"), blocks(must("a", lacking, many=keys)))
        for keys in (("c", "b", "a"), {"c": 1, "a": 1, "b": 2}):
            config = blocks(must("a", ahead=say(False), many=("keys", say(keys))))
            self.refused(Refused((at("a", "a", "must"),)), config)

    def test_in_the_order_of_needs_and_then_of_addresses(self):
        # "a" needs "z", so "b" comes first, then "z", then "a".
        a, b, z = must("a", of("z", "one", "must")), must("b", WRONG), must("z", WRONG_TOO)
        self.refused(Misfit(WRONG), blocks(a, b, z))
        self.refused(Misfit(WRONG_TOO), blocks(a, must("b"), z))
        wrong = ("join", (of("z", "one", "must"), WRONG))
        self.refused(Misfit(WRONG_TOO), blocks(must("a", wrong), must("zz", WRONG_TOO), must("z", WRONG_TOO)))
        self.refused(Misfit(WRONG), blocks(must("a", wrong), must("zz", WRONG_TOO), must("z")))
        inner = Call("c", blocks(must("a", WRONG_TOO)), {})
        self.refused(Misfit(WRONG), blocks(must("z", WRONG), calls=(inner,)))
        self.refused(Misfit(WRONG_TOO), blocks(must("z", WRONG, after=("c",)), calls=(inner,)))
        reading = Reading("hold", "r", {"name": WRONG_TOO})
        self.refused(Misfit(WRONG_TOO), blocks(must("a", WRONG), readings=(reading,)))
        self.refused(Misfit(WRONG), blocks(hold("a", WRONG), readings=(reading,)))

    def test_outputs_and_what_may_never_go_come_last(self):
        stand = Stand(blocks(net("a", say(1)), net("b", say(1))))
        config = blocks(net("a", say(2), never=True), outputs=(("o", WRONG),))
        self.refused(Misfit(WRONG), config, stand=stand)
        config = blocks(net("b", say(2), never=True), net("a", say(2), never=True), must("c"))
        self.refused(Refused((at("a"), at("b"))), config, stand=stand)
        config = blocks(net("b", say(2), never=True), net("a", say(2), never=True), must("c", WRONG))
        self.refused(Misfit(WRONG), config, stand=stand)

    def test_what_an_expression_names_in_any_branch(self):
        # Parameters by their arguments and outputs, in the order in which they stand, all ahead of the expression.
        out, wrong = ("out", "d", "o"), ("size", say(0))
        inner = Config(params=("p", "q"), blocks=(net("x", ("if", say(True), say(1), ("tuple", (param("q"), out)))),),
                       calls=(Call("d", Config(outputs=(("o", WRONG),)), {}),))
        call = Call("c", inner, {"p": say(1), "q": WRONG_TOO})
        self.refused(Misfit(WRONG_TOO), Config(calls=(call,)))
        call = Call("c", inner, {"p": wrong, "q": say(1)})
        self.refused(Misfit(WRONG), Config(calls=(call,)))
        first = Config(params=("p", "q"), blocks=(net("x", ("join", (WRONG, param("q"), param("p")))),))
        self.refused(Misfit(WRONG_TOO), Config(calls=(Call("c", first, {"p": wrong, "q": WRONG_TOO}),)))
        nested = Config(params=("r",), calls=(Call("c", first, {"p": wrong, "q": ("tuple", (WRONG, param("r")))}),))
        self.refused(Misfit(WRONG_TOO), Config(calls=(Call("e", nested, {"r": WRONG_TOO}),)))
        # Where nothing is named nothing is reckoned.
        self.assertTrue(Stand().plan(Config(calls=(Call("c", Config(params=("p",)), {"p": WRONG}),))))

    def test_named_in_a_part(self):
        place = ("pick", ("tuple", (say(1), param("p"))), ("if", say(False), param("q"), say(0)))
        inner = Config(params=("p", "q"), blocks=(net("x", place),))
        self.refused(Misfit(WRONG), Config(calls=(Call("c", inner, {"q": WRONG_TOO, "p": WRONG}),)))
        self.refused(Misfit(WRONG_TOO), Config(calls=(Call("c", inner, {"q": WRONG_TOO, "p": say(1)}),)))


class Many(Case):
    def test_counts(self):
        for number in (0, 1, 2, 20):
            found = Stand().plan(blocks(net("a", ("own", "index"), many=("count", say(number)))))
            self.assertEqual({one: found.planned[one]["f"] for one in found.planned},
                             {at("a", index): index for index in range(number)})
            self.assertEqual(found.deeds, {at("a", index): "make" for index in range(number)})

    def test_no_counts(self):
        for value in (-1, 21, True, False, None, "1", (), ("a",), {}, (1,), {"a": 1}):
            config = blocks(net("a", many=("count", say(value))))
            self.raises(BadMany(block_at("a")), plan, config, {}, KINDS, empty(), World(KINDS))

    def test_keys(self):
        for value in ((), ("b",), ("b", "a", ""), {}, {"a": 1}, {"b": None, "a": (1,)}, {str(n): 1 for n in range(20)},
                      tuple("tsrqponmlkjihgfedcba")):
            told = ("tuple", (("own", "key"), ("own", "value")))
            found = Stand().plan(blocks(net("a", told, many=("keys", say(value)))))
            items = value if isinstance(value, dict) else {key: key for key in value}
            self.assertEqual({one: found.planned[one]["f"] for one in found.planned},
                             {at("a", key): (key, item) for key, item in items.items()})

    def test_no_keys(self):
        for value in (1, None, True, "ab", ("a", "a"), ("a", 1), ((),), ("a", ("b",)), tuple("abcdefghijklmnopqrstu"),
                      {str(n): 1 for n in range(21)}, (None,), ("a", {}), (True,)):
            config = blocks(net("a", many=("keys", say(value))))
            self.raises(BadMany(block_at("a")), plan, config, {}, KINDS, empty(), World(KINDS))

    def test_a_tag_is_no_tuple_of_keys(self):
        stand = Stand(blocks(net("x")))
        config = blocks(net("x"), net("y", many=("keys", of("x", "id"))))
        self.raises(BadMany(block_at("y")), plan, config, {}, KINDS, stand.state, stand.world)

    def test_unsure(self):
        many = [
            ("count", LATER), ("keys", LATER), ("keys", ("tuple", (LATER,))), ("keys", ("tuple", (say("a"), LATER))),
            ("keys", ("tuple", (LATER, say(1)))), ("keys", ("tuple", (say("a"), say("a"), LATER))),
            ("keys", ("if", ("same", LATER, say(1)), say(("a",)), say(("b",)))), ("count", ("size", LATER)),
        ]
        for one in many:
            config = blocks(net("x"), net("y", WRONG, many=one))
            self.raises(Unsure(block_at("y")), plan, config, {}, KINDS, empty(), World(KINDS))

    def test_sure_though_something_is_unknown(self):
        found = Stand().plan(blocks(net("x"), net("y", ("own", "value"), many=("keys", ("map", (("k", LATER),))))))
        self.assertEqual(found.planned[at("y", "k")]["f"], Unknown())
        found = Stand().plan(blocks(net("x"), net("y", many=("count", ("size", ("tuple", (LATER, LATER)))))))
        self.assertEqual(found.deeds, {at("x"): "make", at("y", 0): "make", at("y", 1): "make"})
        same = ("if", ("same", LATER, say(1)), say(1), say(1))
        self.assertIn(at("y", 0), Stand().plan(blocks(net("x"), net("y", many=("count", same)))).deeds)
        for one in (("tuple", (LATER,)), ("map", (("k", LATER),))):
            config = blocks(net("x"), net("y", many=("count", one)))
            self.raises(BadMany(block_at("y")), plan, config, {}, KINDS, empty(), World(KINDS))
        config = blocks(net("x"), net("y", many=("keys", ("tuple", (("tuple", (LATER,)),)))))
        self.raises(BadMany(block_at("y")), plan, config, {}, KINDS, empty(), World(KINDS))

    def test_values_of_blocks(self):
        outputs = (
            ("one", of("x", "a")), ("list", ("each", "net", "y", "a")), ("map", ("each", "net", "z", "a")),
            ("second", ("at", "net", "y", say(1), "a")), ("k", ("at", "net", "z", say("k"), "f")),
        )
        config = blocks(
            net("x", a=say(0)), net("y", a=("own", "index"), many=("count", say(11))),
            net("z", ("own", "value"), ("own", "key"), many=("keys", say({"l": 5, "k": 6}))), outputs=outputs,
        )
        self.assertEqual(Stand().plan(config).outputs, {
            "one": 0, "list": tuple(range(11)), "map": {"k": "k", "l": "l"}, "second": 1, "k": 6,
        })


    def test_values_of_blocks_without_instances(self):
        outputs = (("list", ("each", "net", "y", "a")), ("map", ("each", "net", "z", "a")))
        config = blocks(net("x", ("size", ("each", "net", "y", "id")), many=("count", say(1))),
                        net("y", many=("count", say(0))), net("z", many=("keys", say(()))), outputs=outputs)
        self.assertEqual(Stand().plan(config).outputs, {"list": (), "map": {}})
        stand = Stand(config)
        self.assertEqual((stand.state.outputs, set(stand.state.objects)), ({"list": (), "map": {}}, {at("x", 0)}))


class Deeds(Case):
    def deed(self, stand, config, **more):
        """The deed, the reasons, and the planned attributes of the block x."""
        found = stand.plan(config, **more)
        return found.deeds.get(at("x")), found.reasons.get(at("x")), found.planned[at("x")]

    def test_make(self):
        word, reasons, planned = self.deed(Stand(), blocks(net("x", say(1), say("t"))))
        self.assertEqual((word, reasons), ("make", None))
        self.assertEqual(planned, {"f": 1, "a": "t", "c": ANY, "id": ANY, "mark": ANY, "round": "<t>"})

    def test_around(self):
        for value, told in (("t", "<t>"), ("", "<>"), (0, "<0>"), (-12, "<-12>"), (None, "<>"), (True, "<>"),
                            ((1,), "<>"), ({}, "<>")):
            self.assertEqual(self.deed(Stand(), blocks(net("x", a=say(value))))[2]["round"], told)
        config = blocks(net("x", a=of("y", "id")), net("y"))
        self.assertEqual(self.deed(Stand(), config)[2]["round"], ANY)
        config = blocks(net("x", a=("tuple", (of("y", "id"),))), net("y"))
        self.assertEqual(self.deed(Stand(), config)[2]["round"], "<>")

    def test_what_is_chosen(self):
        def filled(**told):
            return blocks(Block("net", "x", {key: say(value) for key, value in told.items()}))

        self.assertEqual(self.deed(Stand(), filled())[2]["c"], ANY)
        self.assertEqual(self.deed(Stand(), filled(c=None))[2]["c"], ANY)
        self.assertEqual(self.deed(Stand(), filled(c="t"))[2]["c"], "t")
        stand = Stand(filled(c="t"))
        self.assertEqual(self.deed(stand, filled())[0], None)
        self.assertEqual(self.deed(stand, filled())[2]["c"], "t")
        self.assertEqual(self.deed(stand, filled(c=None))[0], None)
        self.assertEqual(self.deed(stand, filled(c="u"))[:2], ("change", (("differs", "c"),)))
        self.assertEqual(self.deed(stand, filled(a="u"))[2]["c"], "t")
        # Without a prior object it is chosen anew.
        self.assertEqual(self.deed(stand, filled(f="u"))[2]["c"], ANY)
        stand.state = taint(stand.state, at("x"))
        self.assertEqual(self.deed(stand, filled())[2]["c"], ANY)

    def test_nothing(self):
        stand = Stand(blocks(net("x", say(1), say("t"))))
        found = self.deed(stand, blocks(net("x", say(1), say("t"))))
        attributes = stand.state.objects[at("x")].attributes
        self.assertEqual(found, (None, None, attributes))
        self.assertTrue(is_known(found[2]))

    def test_change(self):
        stand = Stand(blocks(net("x", say(1), say("t"))))
        word, reasons, planned = self.deed(stand, blocks(net("x", say(1), say("u"))))
        self.assertEqual((word, reasons), ("change", (("differs", "a"),)))
        self.assertEqual(planned, {"f": 1, "a": "u", "c": "filled", "id": stand.tag("x"), "mark": ANY, "round": "<u>"})
        self.assertEqual(self.deed(stand, blocks(net("x", say(1))))[0], "change")
        self.assertEqual(self.deed(stand, blocks(net("x", say(1))))[2]["round"], "<>")
        # What is not surely the same: 1 and True, and what is not known yet.
        stand = Stand(blocks(net("x", a=say(1))))
        self.assertEqual(self.deed(stand, blocks(net("x", a=say(True))))[0], "change")
        later = blocks(net("y"), net("x", a=of("y", "id")))
        self.assertEqual(self.deed(stand, later)[1:], ((("differs", "a"),), {
            "f": None, "a": ANY, "c": "filled", "id": stand.tag("x"), "mark": ANY, "round": ANY}))

    def test_all_that_differs_in_the_order_of_given(self):
        kind = Kind("kind", tuple([(name, "open", False, None) for name in "zaf"]), (ID,))
        kinds = {"kind": kind}

        def config(*told):
            return blocks(Block("kind", "x", {name: say(value) for name, value in zip("afz", told)}))

        stand = Stand(config(1, 2, 3), kinds=kinds)
        found = stand.plan(config(2, 2, 4))
        self.assertEqual(found.reasons, {at("x", None, "kind"): (("differs", "z"), ("differs", "a"))})

    def test_forced(self):
        stand = Stand(blocks(net("x", say(1), say("t"))))
        word, reasons, planned = self.deed(stand, blocks(net("x", say(2), say("u"))))
        self.assertEqual((word, reasons), ("replace", (("forced", "f"),)))
        self.assertEqual(planned, {"f": 2, "a": "u", "c": ANY, "id": ANY, "mark": ANY, "round": "<u>"})
        self.assertEqual(self.deed(stand, blocks(net("x", say(True))))[1], (("forced", "f"),))
        self.assertEqual(self.deed(stand, blocks(net("x")))[1], (("forced", "f"),))
        # Forced by what is not surely the same, too.
        later = blocks(net("y"), net("x", ("if", ("same", of("y", "id"), say(1)), say(1), say(2))))
        self.assertEqual(self.deed(stand, later)[1], (("forced", "f"),))
        later = blocks(net("y"), net("x", ("if", ("same", of("y", "id"), say(1)), say(1), say(1)), say("t")))
        self.assertEqual(self.deed(stand, later)[1], None)

    def test_tainted_and_asked(self):
        stand = Stand(blocks(net("x", say(1), say("t")), net("y")))
        config = blocks(net("x", say(1), say("t")), net("y"))
        self.assertEqual(self.deed(stand, config, replace=(at("x"),))[:2], ("replace", (("asked",),)))
        self.assertEqual(self.deed(stand, config, replace=(at("y"), at("z"), at("x", 0)))[0], None)
        stand.state = taint(stand.state, at("x"))
        self.assertEqual(self.deed(stand, config)[:2], ("replace", (("tainted",),)))
        self.assertEqual(self.deed(stand, config, replace=(at("x"),))[1], (("tainted",), ("asked",)))
        # There is no prior object then, so nothing is forced.
        self.assertEqual(self.deed(stand, blocks(net("x", say(2)), net("y")))[1], (("tainted",),))
        # Where nothing stands nothing is replaced.
        self.assertEqual(self.deed(Stand(), config, replace=(at("x"),))[:2], ("make", None))

    def test_all_reasons_in_their_order(self):
        kind = Kind("kind", tuple([(name, "open", name != "n", None) for name in "zanf"]), (ID,))
        kinds = {"kind": kind, **KINDS}
        by = (("net", "y"), ("net", "y", "mark"), ("net", "z"), ("net", "y", "a"), ("net", "y"), ("net", "y", "f"))

        def config(value, text):
            return blocks(Block("kind", "x", {name: say(value) for name in "fazn"}, replaced_by=by),
                          net("z"), net("y", a=say(text)))

        stand = Stand(config(1, "t"), kinds=kinds)
        here = at("x", None, "kind")
        found = stand.plan(config(2, "u"), replace=(here,))
        told = (("by", ("net", "y")), ("by", ("net", "y", "mark")), ("by", ("net", "y", "a")))
        self.assertEqual(found.reasons[here], (("asked",), ("forced", "z"), ("forced", "a"), ("forced", "f"), *told))
        stand.state = taint(stand.state, here)
        found = stand.plan(config(2, "u"), replace=(here,))
        self.assertEqual(found.reasons[here], (("tainted",), ("asked",), *told))

    def test_replaced_by_a_block(self):
        def config(f, a, number, what=("net", "y")):
            return blocks(net("x", replaced_by=(what,)), net("y", say(f), say(a), many=("count", say(number))))

        stand = Stand(config(1, 1, 2))
        self.assertEqual(self.deed(stand, config(1, 1, 2))[0], None)
        self.assertEqual(self.deed(stand, config(1, 2, 2))[1], (("by", ("net", "y")),))
        self.assertEqual(self.deed(stand, config(2, 1, 2))[1], (("by", ("net", "y")),))
        # Neither what is made nor what is destroyed counts.
        self.assertEqual(self.deed(stand, config(1, 1, 3))[0], None)
        self.assertEqual(self.deed(stand, config(1, 1, 1))[0], None)
        self.assertEqual(self.deed(stand, config(1, 1, 0))[0], None)
        self.assertEqual(self.deed(stand, config(1, 1, 2), replace=(at("y", 1),))[1], (("by", ("net", "y")),))

    def test_replaced_by_an_attribute(self):
        def config(f, a, number, name):
            return blocks(net("x", replaced_by=(("net", "y", name),)),
                          net("y", say(f), say(a), many=("count", say(number))))

        stand = Stand(config(1, "t", 2, "a"))
        cases = {
            "f": [False, False, True, False, False, False], "a": [False, True, False, False, False, False],
            "c": [False, False, True, False, False, True], "id": [False, False, True, False, False, True],
            "mark": [False, True, True, False, False, True], "round": [False, True, False, False, False, False],
        }
        for name, told in cases.items():
            configs = [config(1, "t", 2, name), config(1, "u", 2, name), config(2, "t", 2, name),
                       config(1, "t", 3, name), config(1, "t", 1, name), config(1, "t", 2, name)]
            for number, (one, so) in enumerate(zip(configs, told)):
                more = {"replace": (at("y", 0),)} if number == 5 else {}
                with self.subTest(name, number=number):
                    reasons = (("by", ("net", "y", name)),) if so else None
                    self.assertEqual(self.deed(stand, one, **more)[1], reasons)
        # An object that is tainted stands too.
        stand.state = taint(stand.state, at("y", 1))
        self.assertEqual(self.deed(stand, config(1, "t", 2, "f"))[1], None)
        self.assertEqual(self.deed(stand, config(1, "t", 2, "id"))[1], (("by", ("net", "y", "id")),))
        self.assertEqual(self.deed(Stand(), config(1, "t", 2, "id"))[0], "make")

    def test_replaced_along_a_chain(self):
        def config(a):
            return blocks(net("x", replaced_by=(("net", "y"),)), net("y", replaced_by=(("net", "z"),)),
                          net("z", a=say(a)))

        stand = Stand(config(1))
        found = stand.plan(config(2))
        self.assertEqual(found.deeds, {at("x"): "replace", at("y"): "replace", at("z"): "change"})

    def test_ignored(self):
        def config(f, a, ignored=("f", "a", "c")):
            return blocks(Block("net", "x", {"f": say(f), "a": say(a), "c": say(a)}, ignored=ignored))

        stand = Stand(config(1, "t"))
        word, _, planned = self.deed(stand, config(2, "u"))
        self.assertEqual((word, planned), (None, stand.state.objects[at("x")].attributes))
        self.assertEqual(self.deed(stand, config(2, "u", ("f", "a")))[1], (("differs", "c"),))
        word, _, planned = self.deed(stand, config(2, "u", ("f",)))
        self.assertEqual((word, planned["f"], planned["a"], planned["c"]), ("change", 1, "u", "u"))
        # They are reckoned all the same.
        wrong = blocks(Block("net", "x", {"f": WRONG}, ignored=("f",)))
        self.raises(Misfit(WRONG), plan, wrong, {}, KINDS, stand.state, stand.world)
        # A new object has what is written.
        word, _, planned = self.deed(stand, config(2, "u"), replace=(at("x"),))
        self.assertEqual((word, planned["f"], planned["a"], planned["c"]), ("replace", 2, "u", "u"))
        stand.state = taint(stand.state, at("x"))
        word, reasons, planned = self.deed(stand, config(2, "u"))
        self.assertEqual((word, reasons, planned["f"]), ("replace", (("tainted",),), 2))

    def test_ignored_and_others_that_refer_to_it(self):
        config = blocks(net("x", say(1), ignored=("f",)), net("y", of("x", "f")))
        stand = Stand(config)
        config = blocks(net("x", say(2), ignored=("f",)), net("y", of("x", "f")))
        self.assertEqual(stand.plan(config).deeds, {})
        self.assertEqual(stand.plan(config, replace=(at("x"),)).deeds, {at("x"): "replace", at("y"): "replace"})

    def test_lacking(self):
        def config(one, two, **more):
            return blocks(must("x", say(one), say(two), **more))

        here = at("x", None, "must")
        stand = Stand(config(1, 2))
        ignored = {"ignored": ("two",)}
        self.raises(Lacking(here, "one"), plan, config(None, None), {}, KINDS, stand.state, stand.world)
        self.raises(Lacking(here, "two"), plan, config(2, None), {}, KINDS, stand.state, stand.world)
        # An ignored one is lacking only where a new object needs it.
        self.assertEqual(stand.plan(config(2, None, **ignored)).deeds, {here: "change"})
        self.raises(Lacking(here, "two"), plan, config(2, None, **ignored), {}, KINDS, stand.state, stand.world,
                    replace=(here,))
        ignored = {"ignored": ("one",)}
        self.raises(Lacking(here, "one"), plan, config(None, 3, **ignored), {}, KINDS, stand.state, stand.world)
        self.raises(Lacking(here, "two"), plan, config(None, None, **ignored), {}, KINDS, stand.state, stand.world,
                    replace=(here,))
        self.raises(Lacking(here, "one"), plan, config(None, 2, **ignored), {}, KINDS, empty(), World(KINDS))
        tainted = taint(stand.state, here)
        self.raises(Lacking(here, "one"), plan, config(None, 2, **ignored), {}, KINDS, tainted, stand.world)
        # What is not known yet may come to be given.
        later = blocks(net("y"), must("x", of("y", "id"), ("tuple", (of("y", "id"),))))
        self.assertEqual(Stand().plan(later).deeds, {at("y"): "make", here: "make"})

    def test_destroy(self):
        stand = Stand(blocks(net("x"), net("y", many=("count", say(3))), net("z", many=("keys", say(("k", "l"))))))
        config = blocks(net("y", many=("count", say(1))), net("z", many=("keys", say(("l", "m")))))
        self.assertEqual(stand.plan(config).deeds, {
            at("x"): "destroy", at("y", 1): "destroy", at("y", 2): "destroy", at("z", "k"): "destroy",
            at("z", "m"): "make",
        })
        self.assertEqual(set(stand.plan(config).planned), {at("y", 0), at("z", "l"), at("z", "m")})

    def test_deposed(self):
        stand = Stand(blocks(net("x"), net("y"), net("z", never=True)))
        stand.depose(at("x"), 4)
        stand.depose(at("z"), 1)
        found = stand.plan(blocks(net("x", never=True), net("z", never=True)))
        self.assertEqual(found.deeds, {
            (at("x"), 4): "destroy", (at("z"), 1): "destroy", at("x"): "make", at("y"): "destroy", at("z"): "make",
        })
        self.assertEqual(found.reasons, {})

    def test_never(self):
        def config(f, number=2, never=True):
            return blocks(net("x", say(f), never=never, many=("count", say(number))))

        stand = Stand(config(1))
        self.assertEqual(stand.plan(config(1)).deeds, {})
        self.assertEqual(stand.plan(blocks(net("x", say(1), say(2), never=True, many=("count", say(2))))).deeds,
                         {at("x", 0): "change", at("x", 1): "change"})
        self.raises(Refused((at("x", 0), at("x", 1))), plan, config(2), {}, KINDS, stand.state, stand.world)
        self.raises(Refused((at("x", 1),)), plan, config(1, 1), {}, KINDS, stand.state, stand.world)
        self.raises(Refused((at("x", 0), at("x", 1))), plan, config(2, 1), {}, KINDS, stand.state, stand.world)
        # What is not written any more may go.
        self.assertEqual(stand.plan(Config()).deeds, {at("x", 0): "destroy", at("x", 1): "destroy"})
        self.assertEqual(stand.plan(config(2, never=False)).deeds, {at("x", 0): "replace", at("x", 1): "replace"})
        self.raises(Refused((at("x", 0), at("x", 1))), plan, config(1), {}, KINDS, stand.state, stand.world,
                    destroy=True)

    def test_gone_and_altered_objects(self):
        stand = Stand(blocks(net("x", say(1), say(1)), net("y", say(1), say(1))))
        stand.world.alter(stand.tag("x"), "a", 2)
        stand.world.destroy(stand.tag("y"))
        found = stand.plan(blocks(net("x", say(1), say(1)), net("y", say(1), say(1))))
        self.assertEqual(found.deeds, {at("x"): "change", at("y"): "make"})
        self.assertEqual(found.drift, {at("x"): ("a", "round"), at("y"): None})
        self.assertEqual(set(found.base.objects), {at("x")})
        self.assertEqual(found.base.objects[at("x")].attributes["a"], 2)

    def test_ahead(self):
        for value in (True, ("same", say(1), say(1))):
            told = say(True) if value is True else value
            self.assertEqual(Stand().plan(blocks(net("x", ahead=told))).deeds, {at("x"): "make"})
        refused = Refused((at("x"),))
        self.raises(refused, plan, blocks(net("x", ahead=say(False))), {}, KINDS, empty(), World(KINDS))
        stand = Stand(blocks(net("x")))
        # It is asked of what has nothing to do, too.
        self.raises(refused, plan, blocks(net("x", ahead=say(False))), {}, KINDS, stand.state, stand.world)
        for value in (None, 0, 1, "", "True", (), {}, (True,)):
            self.raises(Misfit(say(value)), plan, blocks(net("x", ahead=say(value))), {}, KINDS, empty(), World(KINDS))
        later = ("same", of("y", "id"), say(1))
        found = Stand().plan(blocks(net("x", ahead=later), net("y")))
        self.assertEqual(found.deeds, {at("x"): "make", at("y"): "make"})
        found = Stand().plan(blocks(net("x", ahead=of("y", "id")), net("y")))
        self.assertEqual(found.deeds, {at("x"): "make", at("y"): "make"})
        inner = ("tuple", (later,))
        self.raises(Misfit(inner), plan, blocks(net("x", ahead=inner), net("y")), {}, KINDS, empty(), World(KINDS))


class Readings(Case):
    def standing(self):
        return Stand(blocks(*[hold(name, say(name), say((1,))) for name in "cab"], net("x")))

    def told(self, stand, *told, name="r", kind="hold", **more):
        found = stand.plan(blocks(*told, **more))
        return found.deeds.get(block_at(name, kind)), found.planned[block_at(name, kind)]

    def test_read_now(self):
        stand = self.standing()
        rest = [hold(name, say(name), say((1,))) for name in "cab"]
        tags = [stand.tag(name, None, "hold") for name in "abc"]
        # In the order of their making.
        for question, ids in (({}, tags), ({"of": say((1,))}, tags), ({"name": say("b")}, [tags[1]]),
                              ({"name": say("b"), "of": say((1,))}, [tags[1]]), ({"name": say("d")}, []),
                              ({"name": say("b"), "of": say(1)}, []), ({"of": say((True,))}, [])):
            told = self.told(stand, *rest, readings=(Reading("hold", "r", question),))
            self.assertEqual(told, (None, {"ids": tuple(ids), "size": len(ids)}))
        outputs = (("ids", of("r", "ids", "hold")), ("size", of("r", "size", "hold")))
        found = stand.plan(blocks(readings=(Reading("hold", "r", {"name": say("b")}),), outputs=outputs))
        self.assertEqual(found.outputs, {"ids": (tags[1],), "size": 1})

    def test_by_what_is_kept(self):
        stand = Stand(blocks(Block("read", "x", {"x": say("A")})))
        for text, number in (("A", 1), ("a", 0)):
            reading = Reading("read", "r", {"x": say(text)})
            self.assertEqual(self.told(stand, readings=(reading,), kind="read")[1]["size"], number)

    def test_put_off_by_the_question(self):
        reading = Reading("hold", "r", {"name": of("y", "id")})
        later = {"ids": ANY, "size": ANY}
        self.assertEqual(self.told(self.standing(), net("y"), readings=(reading,)), ("read", later))
        reading = Reading("hold", "r", {"name": ("tuple", (of("y", "id"),))})
        self.assertEqual(self.told(self.standing(), net("y"), readings=(reading,)), ("read", later))
        stand = Stand(blocks(net("y")))
        self.assertEqual(self.told(stand, net("y"), readings=(reading,)), (None, {"ids": (), "size": 0}))

    def put_off(self, stand, after, *told, **more):
        reading = Reading("hold", "r", {}, after=after)
        return self.told(stand, *told, readings=(reading, *more.pop("readings", ())), **more)[0] == "read"

    def test_put_off_by_after(self):
        stand = Stand(blocks(net("x", say(1), many=("count", say(2)))))
        after = (("net", "x"),)

        def many(number, f=1, a=None):
            return net("x", say(f), say(a), many=("count", say(number)))

        self.assertFalse(self.put_off(stand, after, many(2)))
        self.assertTrue(self.put_off(stand, after, many(3)))
        self.assertTrue(self.put_off(stand, after, many(2, 2)))
        self.assertTrue(self.put_off(stand, after, many(2, 1, 1)))
        # What is destroyed counts, what is deposed does not, nor does another block.
        self.assertTrue(self.put_off(stand, after, many(1)))
        self.assertTrue(self.put_off(stand, after, many(0)))
        self.assertFalse(self.put_off(stand, after, many(2), net("y")))
        self.assertFalse(self.put_off(stand, (), many(3)))
        stand.depose(at("x", 1), 1)
        self.assertFalse(self.put_off(stand, after, many(1)))

    def test_a_reference_alone_puts_nothing_off(self):
        stand = Stand(blocks(net("x", say("b"), say(1))))
        reading = Reading("hold", "r", {"name": of("x", "f")})
        self.assertEqual(self.told(stand, net("x", say("b"), say(2)), readings=(reading,))[0], None)

    def test_put_off_by_readings(self):
        later = Reading("hold", "s", {"name": of("y", "id")})
        self.assertTrue(self.put_off(Stand(), (("hold", "s"),), net("y"), readings=(later,)))
        now = Reading("hold", "s", {"name": say("y")})
        self.assertFalse(self.put_off(Stand(), (("hold", "s"),), net("y"), readings=(now,)))
        behind = Reading("hold", "s", {}, after=(("net", "y"),))
        self.assertTrue(self.put_off(Stand(), (("hold", "s"),), net("y"), readings=(behind,)))

    def test_put_off_by_calls(self):
        inner = Call("c", blocks(net("y")), {})
        deep = Call("d", Config(calls=(inner,)), {})
        self.assertTrue(self.put_off(Stand(), ("c",), calls=(inner,)))
        self.assertTrue(self.put_off(Stand(), ("d",), calls=(deep,)))
        self.assertFalse(self.put_off(Stand(), (), calls=(inner,)))
        self.assertFalse(self.put_off(Stand(Config(calls=(inner,))), ("c",), calls=(inner,)))
        reading = Config(readings=(Reading("hold", "s", {}, after=()),))
        self.assertFalse(self.put_off(Stand(), ("c",), calls=(Call("c", reading, {}),)))
        reading = Config(params=("p",), readings=(Reading("hold", "s", {"name": param("p")}),))
        call = Call("c", reading, {"p": of("y", "id")})
        self.assertTrue(self.put_off(Stand(), ("c",), net("y"), calls=(call,)))

    def test_put_off_by_the_after_of_calls_around(self):
        inner = Config(readings=(Reading("hold", "r", {}),))
        for depth, call in enumerate((Call("c", inner, {}, after=(("net", "y"),)),
                                      Call("c", Config(calls=(Call("d", inner, {}),)), {}, after=(("net", "y"),)))):
            here = block_at("r", "hold", ("c", "d")[:depth + 1])
            config = blocks(net("y"), calls=(call,))
            self.assertEqual(Stand().plan(config).deeds[here], "read")
            self.assertNotIn(here, Stand(config).plan(config).deeds)

    def test_what_refers_to_it(self):
        reading = Reading("hold", "r", {}, after=(("net", "y"),))
        config = blocks(net("y"), net("z", of("r", "size", "hold"), of("r", "ids", "hold")), readings=(reading,))
        found = Stand().plan(config)
        self.assertEqual((found.planned[at("z")]["f"], found.planned[at("z")]["a"]), (ANY, ANY))
        many = blocks(net("y"), net("z", many=("count", of("r", "size", "hold"))), readings=(reading,))
        self.raises(Unsure(block_at("z")), plan, many, {}, KINDS, empty(), World(KINDS))

    def test_what_is_not_written_any_more_in_a_call(self):
        # After a call is after what stands in it now.
        old = Config(calls=(Call("c", blocks(net("y"), net("z")), {}),))
        stand = Stand(old)
        self.assertFalse(self.put_off(stand, ("c",), calls=(Call("c", blocks(net("y")), {}),)))


class Outputs(Case):
    def test_known_and_unknown(self):
        outputs = (("a", of("x", "a")), ("id", of("x", "id")), ("both", ("tuple", (of("x", "a"), of("x", "id")))))
        config = blocks(net("x", a=say(1)), outputs=outputs)
        self.assertEqual(Stand().plan(config).outputs, {"a": 1, "id": ANY, "both": (1, ANY)})
        stand = Stand(config)
        self.assertEqual(stand.plan(config).outputs, {"a": 1, "id": stand.tag("x"), "both": (1, stand.tag("x"))})

    def test_through_calls(self):
        leaf = Config(params=("p", ("q", 5)), blocks=(net("x", param("p"), param("q")),),
                      outputs=(("o", ("tuple", (param("p"), of("x", "a"), of("x", "id")))),))
        mid = Config(params=("p",), calls=(Call("l", leaf, {"p": ("join", (param("p"), say("!")))}),),
                     outputs=(("o", ("pick", ("out", "l", "o"), say(0))), ("i", ("pick", ("out", "l", "o"), say(2)))))
        call = Call("m", mid, {"p": of("y", "a")})
        other = Call("n", leaf, {"p": ("out", "m", "o"), "q": ("out", "m", "i")})
        config = blocks(net("y", a=say("t")), calls=(call, other), outputs=(("o", ("out", "n", "o")),))
        found = Stand().plan(config)
        self.assertEqual(found.outputs, {"o": ("t!", ANY, ANY)})
        self.assertEqual(found.planned[at("x", path=("m", "l"))]["f"], "t!")
        self.assertEqual(found.planned[at("x", path=("m", "l"))]["a"], 5)
        self.assertEqual(found.planned[at("x", path=("n",))]["f"], "t!")
        stand = Stand(config)
        tag = stand.tag(("m", "l"), "net", "x", None)
        other = stand.tag(("n",), "net", "x", None)
        self.assertEqual(stand.plan(config).outputs, {"o": ("t!", tag, other)})
        self.assertEqual(stand.state.outputs, {"o": ("t!", tag, other)})
        self.assertTrue(is_empty(stand.plan(config)))

    def test_names_of_parameters_stand_for_their_own(self):
        # The p of the call is not the one of the configuration, and not what is passed for this.
        inner = Config(params=(("p", 5), "q"), outputs=(("o", ("tuple", (param("p"), param("q")))),))
        call = Call("c", inner, {"q": param("p")})
        config = Config(params=("p",), calls=(call,), outputs=(("o", ("out", "c", "o")),))
        self.assertEqual(Stand(values={"p": 1}).plan(config).outputs, {"o": (5, 1)})
        # An argument is named by its parameter alone, not by a kind of its name.
        inner = Config(params=("net",), blocks=(net("x", of("y", "a")), net("y")))
        config = Config(calls=(Call("c", inner, {"net": WRONG}),))
        self.assertEqual(len(Stand().plan(config).deeds), 2)

    def test_arguments_that_name_several(self):
        inner = Config(params=("p", "q", "r"), outputs=(("o", ("tuple", (param("r"), param("q"), param("p")))),))
        middle = Config(params=("p", "q"), calls=(Call("c", inner, {
            "p": ("tuple", (param("q"), param("p"))), "q": param("p"), "r": param("q")}),),
            outputs=(("o", ("out", "c", "o")), ("q", param("q")), ("r", ("tuple", (("out", "c", "o"), param("q"))))))
        call = Call("d", middle, {"p": say(1), "q": say(2)})
        config = Config(calls=(call,), outputs=(("o", ("tuple", (("out", "d", "q"), ("out", "d", "r"),
                                                                 ("out", "d", "o")))),))
        told = (2, 1, (2, 1))
        self.assertEqual(Stand().plan(config).outputs, {"o": (2, (told, 2), told)})

    def test_six_calls_deep(self):
        config = Config(params=("p",), blocks=(net("x", param("p")),), outputs=(("o", of("x", "f")),))
        for depth in range(6):
            config = Config(params=("p",), calls=(Call("c", config, {"p": ("join", (param("p"), say(depth)))}),),
                            outputs=(("o", ("join", (("out", "c", "o"), say(depth)))),))
        found = Stand(values={"p": "t"}).plan(config)
        self.assertEqual(found.outputs, {"o": "t543210012345"})
        self.assertEqual(found.deeds, {at("x", path=("c",) * 6): "make"})

    def test_long_ways(self):
        # Arguments and outputs, 201 one behind the other.
        step = Config(params=("p",), outputs=(("o", param("p")),))
        names = ["c" + chr(97 + n // 10) + chr(97 + n % 10) for n in range(100)]
        calls = [Call(name, step, {"p": ("out", names[n - 1], "o") if n else param("q")})
                 for n, name in enumerate(names)]
        config = Config(params=("q",), calls=tuple(calls[::-1]), outputs=(("o", ("out", names[-1], "o")),),
                        blocks=(net("x", ("out", names[-1], "o")),))
        found = Stand(values={"q": (1,)}).plan(config)
        self.assertEqual((found.outputs, found.planned[at("x")]["f"]), ({"o": (1,)}, (1,)))

    def test_a_value_that_is_named_again_and_again(self):
        # Each argument names the one before it twice: no time is spent on each way.
        config = Config(params=("p",), outputs=(("o", ("same", param("p"), param("p"))),))
        step = Config(params=("p",), outputs=(("o", ("if", ("same", param("p"), param("p")), param("p"), say(0))),))
        names = ["c" + chr(97 + n // 10) + chr(97 + n % 10) for n in range(90)]
        calls = [Call(name, step, {"p": ("pick", ("tuple", (("out", names[n - 1], "o"),) * 2), say(1))
                                   if n else say(7)}) for n, name in enumerate(names)]
        last = Call("last", config, {"p": ("out", names[-1], "o")})
        config = Config(calls=(*calls, last), outputs=(("o", ("out", "last", "o")), ("p", ("out", names[-1], "o"))))
        self.assertEqual(Stand().plan(config).outputs, {"o": True, "p": 7})


class Values(Case):
    def test_the_values_of_a_plan(self):
        values = {"p": {"k": 1}}
        config = Config(params=("p",), blocks=(net("x", a=param("p")),), outputs=(("o", param("p")),),
                        moves=(Move(("net", "w"), ("net", "x")),))
        stand = Stand(blocks(net("w"), net("z")))
        found = plan(config, values, KINDS, stand.state, stand.world)
        self.assertIsInstance(found, Plan)
        self.assertEqual((found.config, found.kinds, found.passed), (config, KINDS, values))
        self.assertEqual((found.targets, found.clears, found.serial), (None, False, 1))
        self.assertEqual(found.deeds, {at("x"): "change", at("z"): "destroy"})
        self.assertEqual(found.reasons, {at("x"): (("differs", "a"),)})
        self.assertEqual(set(found.planned), {at("x")})
        self.assertEqual((found.outputs, found.drift), ({"o": {"k": 1}}, {}))
        self.assertEqual(found.notes, ((at("w"), at("x"), True),))
        self.assertEqual(set(found.base.objects), {at("x"), at("z")})
        self.assertEqual((found.base.serial, found.base.outputs), (1, {}))
        target = (at("x"),)
        found = plan(config, values, KINDS, stand.state, stand.world, targets=target, destroy=True)
        self.assertEqual((found.targets, found.clears), (target, True))

    def test_nothing_that_is_passed_is_changed_and_what_is_returned_is_new(self):
        values = {"p": {"k": {"l": 1}}}
        config = Config(params=("p",), blocks=(net("x", a=param("p")), hold("h", say("h"), of("x", "id"))),
                        readings=(Reading("net", "r", {}),), outputs=(("o", param("p")),))
        stand = Stand(config, values=values)
        kinds = dict(KINDS)
        before = copy.deepcopy((config, values, kinds, stand.state, stand.world.things()))
        found = plan(config, values, kinds, stand.state, stand.world, replace=(at("x"),))
        again = plan(config, values, kinds, stand.state, stand.world, replace=(at("x"),))
        self.assertEqual(found, again)
        for table in (found.passed["p"]["k"], found.kinds, found.deeds, found.reasons, found.drift, found.planned,
                      found.planned[at("x")]["a"]["k"], found.outputs["o"]["k"], found.planned[block_at("r")]):
            table.clear()
        self.assertEqual((config, values, kinds, stand.state, stand.world.things()), before)
        self.assertNotEqual(found, again)
        values["p"]["k"]["l"] = 2
        kinds.clear()
        self.assertEqual((again.passed, again.kinds), ({"p": {"k": {"l": 1}}}, KINDS))

    def test_equal(self):
        def found(value=1, **more):
            return Stand().plan(blocks(net("x", say(value))), **more)

        self.assertEqual(found(), found())
        self.assertNotEqual(found(), found(True))
        self.assertNotEqual(found(), found(2))
        self.assertNotEqual(found(), found(targets=()))
        self.assertNotEqual(found(), found(targets=(block_at("x"),)))
        self.assertNotEqual(found(destroy=True), found(targets=()))
        self.assertNotEqual(found(), None)
        self.assertNotEqual(found(), 1)
        one, other = Stand(), Stand()
        other.state = State({}, {}, {}, 1)
        self.assertNotEqual(one.plan(Config()), other.plan(Config()))

    def test_no_deed_for_nothing(self):
        stand = Stand(blocks(net("x")))
        self.assertEqual((stand.plan(blocks(net("x"))).deeds, stand.plan(blocks(net("x"))).reasons), ({}, {}))

    def test_is_empty(self):
        config = blocks(net("x"), outputs=(("o", say(1)),))
        stand = Stand(config)
        self.assertIs(is_empty(stand.plan(config)), True)
        self.assertIs(is_empty(Stand().plan(Config())), True)
        self.assertIs(is_empty(Stand().plan(config)), False)
        self.assertIs(is_empty(stand.plan(Config())), False)
        self.assertIs(is_empty(stand.plan(blocks(net("x")))), False)
        self.assertIs(is_empty(stand.plan(blocks(net("x"), outputs=(("o", say(True)),)))), False)
        # A note that went, and one that did not.
        went = blocks(net("y"), outputs=(("o", say(1)),), moves=(Move(("net", "x"), ("net", "y")),))
        self.assertEqual(stand.plan(went).deeds, {})
        self.assertIs(is_empty(stand.plan(went)), False)
        stand = Stand(blocks(net("x"), net("y")))
        went = blocks(net("y"), moves=(Move(("net", "x"), ("net", "y")),))
        target = stand.plan(went, targets=(block_at("y"),))
        self.assertEqual((target.deeds, target.notes), ({}, ((at("x"), at("y"), False),)))
        self.assertIs(is_empty(target), True)
        # Drift alone is nothing to do.
        stand = Stand(blocks(net("x", a=say(1), ignored=("a",))))
        stand.world.alter(stand.tag("x"), "a", 2)
        again = stand.plan(blocks(net("x", a=say(1), ignored=("a",))))
        self.assertEqual((again.drift, is_empty(again)), ({at("x"): ("a", "round")}, True))

    def test_only_deposed(self):
        stand = Stand(blocks(net("x"), net("y")))
        stand.depose(at("y"), 1)
        self.assertIs(is_empty(stand.plan(blocks(net("x")))), False)

    def test_moved_ahead_of_a_plan(self):
        stand = Stand(blocks(net("x", say(1))))
        many = blocks(net("x", say(1), many=("count", say(2))))
        found = stand.plan(many)
        self.assertEqual((found.deeds, found.notes), ({at("x", 1): "make"}, ((at("x"), at("x", 0), True),)))


if __name__ == "__main__":
    unittest.main()
