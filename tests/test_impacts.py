"""Point 8.3: impacts."""

import copy
import itertools
import unittest

from chance import Texts
from planfirst.configs import Block, Call, Config, Reading
from planfirst.errors import NotGeneric, PlanError
from planfirst.impacts import impact
from planfirst.plans import plan
from planfirst.states import State, taint
from stand import KINDS, Case, Stand, at, block_at, blocks, net, of, param, say

P = param("p")
X, Y = at("x"), at("y")
CHANGE = ((X, "change"),)
WRONG = ("size", say(None))
# Unknown in a plan with x in it that is made or replaced, and then no bool.
LATER = of("w", "id")
UNSURE = ("same", LATER, say(1))


def same(one, other):
    return ("same", one, say(other))


def join(*parts):
    return ("join", tuple(part if isinstance(part, tuple) else say(part) for part in parts))


def both(*parts):
    return ("tuple", parts)


class Impacts(Case):
    def rows(self, stand, *told, values=None, **more):
        config = Config(params=("p",), blocks=told, **more)
        before = copy.deepcopy((config, values, stand.state, stand.world.things()))
        found = impact(config, values or {}, stand.kinds, stand.state, stand.world, "p")
        self.assertEqual((config, values, stand.state, stand.world.things()), before)
        return found

    def refused(self, address, *told, stand=None, **more):
        stand = stand or Stand()
        config = Config(params=("p",), blocks=told, **more)
        self.raises(NotGeneric(address), impact, config, {}, stand.kinds, stand.state, stand.world, "p")


class Rows(Impacts):
    def test_a_prior_value(self):
        stand = Stand(blocks(net("x", say(1), say("t"))))
        self.assertEqual(self.rows(stand, net("x", say(1), P)), ((("t",), ()), (None, CHANGE)))
        self.assertEqual(self.rows(stand, net("x", P, say("t"))), ((None, ((X, "replace"),)),))
        self.assertEqual(self.rows(Stand(), net("x", P)), ((None, ((X, "make"),)),))
        stand = Stand(blocks(net("x", say("f"), say("t"))))
        self.assertEqual(self.rows(stand, net("x", P, say("t"))), ((("f",), ()), (None, ((X, "replace"),))))
        # Both of them are of no use to any text.
        self.assertEqual(self.rows(stand, net("x", P, P)), ((("f",), CHANGE), (None, ((X, "replace"),))))

    def test_not_used(self):
        self.assertEqual(self.rows(Stand(), net("x", say(1))), ((None, ((X, "make"),)),))
        self.assertEqual(self.rows(Stand()), ((None, ()),))

    def test_compared(self):
        stand = Stand(blocks(net("x", a=say(0))))
        value = ("if", same(P, "u"), say(1), ("if", same(P, "v"), say(2), say(0)))
        self.assertEqual(self.rows(stand, net("x", a=value)), ((("u", "v"), CHANGE), (None, ())))
        value = ("if", same(P, "u"), say(0), ("if", same(P, "v"), WRONG, say(2)))
        self.assertEqual(self.rows(stand, net("x", a=value)), ((("u",), ()), (("v",), "Misfit"), (None, CHANGE)))
        for other in (None, 1, True, (), {}, ("u",)):
            self.assertEqual(self.rows(stand, net("x", a=("if", same(P, other), say(1), say(0)))), ((None, ()),))

    def test_texts_that_change_nothing_are_in_no_row(self):
        stand = Stand(blocks(net("x", a=say(0))))
        value = ("if", same(P, "u"), say(0), ("if", same(P, "v"), say(1), say(0)))
        self.assertEqual(self.rows(stand, net("x", a=value)), ((("v",), CHANGE), (None, ())))

    def test_the_order_of_rows_and_of_texts(self):
        stand = Stand(blocks(net("x", a=say(0)), net("y", a=say(0))))
        texts = ["b", "", "a", "B", "aa"]
        value = say(0)
        for text in texts:
            value = ("if", same(P, text), say(1), value)
        other = ("if", same(P, "aa"), say(1), ("if", same(P, "B"), say(1), say(0)))
        self.assertEqual(self.rows(stand, net("x", a=value), net("y", a=other)), (
            (("", "a", "b"), CHANGE), (("B", "aa"), ((X, "change"), (Y, "change"))), (None, ())))

    def test_joined(self):
        stand = Stand(blocks(net("x", a=say("abcab"))))
        cases = [
            (join(P), "abcab"), (join("a", P), "bcab"), (join(P, "b"), "abca"), (join("ab", P, "ab"), "c"),
            (join("abcab", P), ""), (join(P, "c", P), "ab"), (join(P, "b", P), None), (join("x", P), None),
            (join("abcab", P, "a"), None), (join(P, P), None), (join(join(P, "c"), P), "ab"),
            (join("", join("", join(P, ""), "cab")), "ab"), (join("abc", P, P), None), (join("abcabx", P), None),
        ]
        for value, text in cases:
            rows = ((None, CHANGE),) if text is None else (((text,), ()), (None, CHANGE))
            self.assertEqual(self.rows(stand, net("x", a=value)), rows, value)

    def test_joined_with_integers(self):
        stand = Stand(blocks(net("x", a=say("-12t-12"))))
        minus = say(-12)
        self.assertEqual(self.rows(stand, net("x", a=join(minus, P, minus)))[0], (("t",), ()))
        self.assertEqual(self.rows(stand, net("x", a=join(minus, P)))[0], (("t-12",), ()))
        stand = Stand(blocks(net("x", a=say("7"))))
        self.assertEqual(self.rows(stand, net("x", a=join(P, say(7))))[0], (("",), ()))
        # An integer is no text, so it is none of this parameter's.
        stand = Stand(blocks(net("x", a=say(7))))
        self.assertEqual(self.rows(stand, net("x", a=P)), ((None, CHANGE),))

    def test_joined_often(self):
        stand = Stand(blocks(net("x", a=say("tt-tt-tt"))))
        pair = join(P, P)
        self.assertEqual(self.rows(stand, net("x", a=join(pair, "-", pair, "-", pair)))[0], (("t",), ()))
        stand = Stand(blocks(net("x", a=say("ab" * 8))))
        value = P
        for _ in range(3):
            value = join(value, value)
        self.assertEqual(self.rows(stand, net("x", a=value))[0], (("ab",), ()))

    def test_joined_with_what_is_unknown(self):
        self.assertEqual(self.rows(Stand(), net("w"), net("x", a=join(P, LATER))), ((None, ((at("w"), "make"),
                                                                                           (X, "make"))),))

    def test_around(self):
        stand = Stand(blocks(net("x", a=say("t")), net("y", a=say("<t>"))))
        found = self.rows(stand, net("x", a=P), net("y", a=of("x", "round")))
        self.assertEqual(found, ((("t",), ()), (None, ((X, "change"), (Y, "change")))))
        stand = Stand(blocks(net("x", a=say("t")), net("y", a=say("<<u>>"))))
        found = self.rows(stand, net("x", a=join("<", P, ">")), net("y", a=of("x", "round")))
        self.assertEqual(found, ((("u",), CHANGE), (None, ((X, "change"), (Y, "change")))))

    def test_picked_by(self):
        stand = Stand(blocks(net("x", a=say(0))))
        table = say({"u": 0, "v": 1, "w": 1})
        self.assertEqual(self.rows(stand, net("x", a=("pick", table, P))), (
            (("u",), ()), (("v", "w"), CHANGE), (None, "Misfit")))
        self.assertEqual(self.rows(stand, net("x", a=("pick", say({"-u-": 0}), join("-", P, "-")))), (
            (("u",), ()), (None, "Misfit")))
        self.assertEqual(self.rows(stand, net("x", a=("pick", say((1, 2)), P))), ((None, "Misfit"),))
        self.assertEqual(self.rows(stand, net("x", a=("pick", P, say(0)))), ((None, "Misfit"),))
        self.assertEqual(self.rows(stand, net("x", a=("pick", say({}), P))), ((None, "Misfit"),))

    def test_as_a_key_of_a_block(self):
        stand = Stand(blocks(net("x", a=say(0))))
        many = net("y", a=("own", "value"), many=("keys", say({"u": 0, "v": 1})))
        found = self.rows(stand, many, net("x", a=("at", "net", "y", P, "a")))
        made = ((at("y", "u"), "make"), (at("y", "v"), "make"))
        self.assertEqual(found, ((("u",), made), (("v",), ((X, "change"), *made)), (None, "Misfit")))
        count = net("y", many=("count", say(2)))
        self.assertEqual(self.rows(stand, count, net("x", a=("at", "net", "y", P, "a"))), ((None, "Misfit"),))
        # Of what is not known at all nothing is told.
        found = self.rows(stand, net("w"), net("x", a=("pick", LATER, P)))
        self.assertEqual(found, ((None, ((at("w"), "make"), (X, "change"))),))

    def test_as_items_of_keys(self):
        config = net("y", a=("own", "value"), many=("keys", ("map", (("k", P), ("l", join(P, P))))))
        stand = Stand(blocks(net("y", a=("own", "value"), many=("keys", say({"k": "t", "l": "uu"})))))
        k, l = (at("y", "k"), "change"), (at("y", "l"), "change")
        self.assertEqual(self.rows(stand, config), ((("t",), (l,)), (("u",), (k,)), (None, (k, l))))

    def test_in_tuples_and_maps(self):
        stand = Stand(blocks(net("x", a=say(("t", 1, {"k": "u"})))))
        for value, text in ((both(P, say(1), say({"k": "u"})), "t"),
                            (both(say("t"), say(1), ("map", (("k", P),))), "u"),
                            (both(P, say(1), ("map", (("k", P),))), None), (both(P, say(1)), None),
                            (both(P, say(True), say({"k": "u"})), None), (P, None)):
            rows = ((None, CHANGE),) if text is None else (((text,), ()), (None, CHANGE))
            self.assertEqual(self.rows(stand, net("x", a=value)), rows)
        # All parts are held, so each may be told; only what does something has a row.
        value = ("if", ("same", both(P, P), say(("t", "u"))), say(1), say(0))
        self.assertEqual(self.rows(stand, net("x", a=value)), ((None, CHANGE),))

    def test_through_parameters_and_outputs(self):
        inner = Config(params=("q",), blocks=(net("y", a=param("q")),), outputs=(
            ("o", join(param("q"), "!")), ("same", same(param("q"), "-u"))))
        call = Call("c", inner, {"q": join("-", P)})
        stand = Stand(Config(blocks=(net("x", a=say("-t!")),), calls=(Call("c", inner, {"q": say("-s")}),)))
        y = (at("y", path=("c",)), "change")
        found = self.rows(stand, net("x", a=("out", "c", "o")), calls=(call,))
        self.assertEqual(found, ((("s",), CHANGE), (("t",), (y,)), (None, (*CHANGE, y))))
        found = self.rows(stand, net("x", ("if", ("out", "c", "same"), WRONG, say(None)), say("-t!")), calls=(call,))
        self.assertEqual(found, ((("s",), ()), (("u",), "Misfit"), (None, (y,))))

    def test_a_readings_question(self):
        stand = Stand(blocks(net("x", a=say(0)), net("y", a=say("t")), net("z", a=say("t")), net("w", a=say("u"))))
        rest = (net("y", a=say("t")), net("z", a=say("t")), net("w", a=say("u")))
        found = self.rows(stand, net("x", a=of("r", "size")), *rest, readings=(Reading("net", "r", {"a": P}),))
        self.assertEqual(found, ((("t", "u"), CHANGE), (None, ())))
        value = ("if", ("same", of("r", "size"), say(2)), WRONG, say(0))
        found = self.rows(stand, net("x", a=value), *rest, readings=(Reading("net", "r", {"a": join(P)}),))
        self.assertEqual(found, ((("t",), "Misfit"), (None, ())))

    def test_errors_by_their_names(self):
        def row(*told, **more):
            return self.rows(Stand(), *told, **more)

        made = ((X, "make"),)
        must = Block("must", "x", {"one": ("if", same(P, "u"), say(None), say(1)), "two": say(1)})
        x = at("x", None, "must")
        self.assertEqual(row(must), ((("u",), "Lacking"), (None, ((x, "make"),))))
        self.assertEqual(row(net("x", ahead=("if", same(P, "u"), say(True), say(False)))),
                         ((("u",), made), (None, "Refused")))
        self.assertEqual(row(net("x", ahead=P)), ((None, "Misfit"),))
        count = ("count", ("if", same(P, "u"), say(21), say(1)))
        self.assertEqual(row(net("x", many=count)), ((("u",), "BadMany"), (None, ((at("x", 0), "make"),))))
        count = ("count", ("if", same(P, "u"), LATER, say(0)))
        self.assertEqual(row(net("w"), net("x", many=count)), ((("u",), "Unsure"), (None, ((at("w"), "make"),))))
        self.assertEqual(row(net("x", many=("keys", P))), ((None, "BadMany"),))
        self.assertEqual(row(Block("none", "x", {})), ((None, "BadConfig"),))
        stand = Stand()
        found = impact(Config(params=("p", "q")), {}, KINDS, stand.state, stand.world, "p")
        self.assertEqual(found, ((None, "NoValue"),))
        stand = Stand(blocks(net("x", say("t"))))
        self.assertEqual(self.rows(stand, net("x", P, never=True)), ((("t",), ()), (None, "Refused")))
        outputs = (("o", ("if", same(P, "u"), WRONG, say(1))),)
        self.assertEqual(row(outputs=outputs), ((("u",), "Misfit"), (None, ())))

    def test_values_and_defaults(self):
        stand = Stand(blocks(net("x", a=say("t"))))
        config = Config(params=(("p", "t"), "q"), blocks=(net("x", a=P), net("y", a=param("q"))))
        for values in ({"q": 1}, {"p": "t", "q": 1}, {"p": 5, "q": 1}):
            found = impact(config, values, KINDS, stand.state, stand.world, "p")
            self.assertEqual(found, ((("t",), ((Y, "make"),)), (None, ((X, "change"), (Y, "make")))))

    def test_the_order_of_deeds(self):
        stand = Stand(blocks(net("x"), net("y", many=("count", say(11))), net("z"), net("v"), net("u")))
        objects = stand.state.objects
        left = {one: objects[one] for one in objects if one[2] in "xy"}
        stand.state = State(left, {(X, 10): objects[at("z")], (X, 9): objects[at("v")], (at("w"), 1): objects[at("u")]},
                            {}, 1)
        reading = Reading("net", "y", {"a": of("a", "id")})
        found = self.rows(stand, net("a"), net("x", P), readings=(reading,))
        many = tuple((at("y", index), "destroy") for index in range(11))
        self.assertEqual(found, ((None, (
            (at("a"), "make"), ((at("w"), 1), "destroy"), (X, "replace"), ((X, 9), "destroy"), ((X, 10), "destroy"),
            (block_at("y"), "read"), *many)),))

    def test_tainted_asked_and_ignored(self):
        stand = Stand(blocks(net("x", say("t"), say("t"))))
        found = self.rows(stand, net("x", P, P, ignored=("f",)))
        self.assertEqual(found, ((("t",), ()), (None, CHANGE)))
        stand.state = taint(stand.state, X)
        self.assertEqual(self.rows(stand, net("x", P, P)), ((None, ((X, "replace"),)),))

    def test_replaced_by_an_attribute(self):
        stand = Stand(blocks(net("x"), net("y", a=say("t"))))
        found = self.rows(stand, net("x", replaced_by=(("net", "y", "round"),)), net("y", a=P))
        self.assertEqual(found, ((("t",), ()), (None, ((X, "replace"), (Y, "change")))))

    def test_what_becomes_a_tag(self):
        # A tuple can be a Tag for one text, in a comparison and by itself.
        stand = Stand(blocks(net("w"), net("x", LATER)))
        number = say(stand.tag("w")[2])
        for value, text in ((both(say("#"), P, number), "net"), (both(P, say("net"), number), "#"),
                            (both(join(P, P, "#"), say("net"), number), ""), (both(say("#"), P, say(77)), None)):
            rows = ((None, ((X, "replace"),)),) if text is None else (((text,), ()), (None, ((X, "replace"),)))
            self.assertEqual(self.rows(stand, net("w"), net("x", value)), rows)
        # Whichever of the two stands first.
        stand = Stand(blocks(net("w"), net("x", say(0))))
        for one, other in itertools.permutations((LATER, both(say("#"), P, number))):
            found = self.rows(stand, net("w"), net("x", ("if", ("same", one, other), say(1), say(0))))
            self.assertEqual(found, ((("net",), ((X, "replace"),)), (None, ())))
        value = ("size", both(P, say("net"), say(1)))
        self.assertEqual(self.rows(Stand(), net("x", value)), ((("#",), "Misfit"), (None, ((X, "make"),))))
        value = ("size", both(join("#", P), say("net"), say(1)))
        self.assertEqual(self.rows(Stand(), net("x", value)), ((("",), "Misfit"), (None, ((X, "make"),))))

    def test_eight_instances(self):
        texts = "abcdefgh"
        stand = Stand(blocks(*[net(text, a=say(text)) for text in texts]))
        found = self.rows(stand, *[net(text, a=P) for text in texts])
        changes = [(at(text), "change") for text in texts]
        self.assertEqual(found, (*[((text,), tuple(one for one in changes if one[0] != at(text))) for text in texts],
                                 (None, tuple(changes))))


class Generic(Impacts):
    def test_size(self):
        self.refused(block_at("x"), net("x", ("size", P)))
        self.refused(block_at("x"), net("x", ("size", join("a", P))))
        self.refused((), net("x"), outputs=(("o", ("size", P)),))
        # Not of a tuple or a map, nor of what is not touched.
        for value in (("size", both(P, P)), ("size", ("map", (("k", P),))), ("size", say("t")),
                      ("size", ("if", same(P, "u"), say("u"), say("vw")))):
            self.assertEqual(self.rows(Stand(), net("x", value)), ((None, ((X, "make"),)),))
        # It says nothing of texts that are told.
        stand = Stand(blocks(net("x", a=say(1))))
        value = ("if", same(P, "u"), ("size", P), say(0))
        self.assertEqual(self.rows(stand, net("x", a=value)), ((("u",), ()), (None, CHANGE)))

    def test_count_and_keys(self):
        self.refused(block_at("x"), net("x", many=("count", P)))
        self.refused(block_at("x"), net("x", many=("count", join(P, say(1)))))
        self.refused(block_at("x"), net("x", many=("keys", both(P))))
        self.refused(block_at("x"), net("x", many=("keys", both(say("a"), join("a", P)))))
        self.assertEqual(self.rows(Stand(), net("x", many=("count", both(P)))), ((None, "BadMany"),))
        keys = ("keys", ("if", same(P, "u"), both(P), say(())))
        self.assertEqual(self.rows(Stand(), net("x", many=keys)), ((("u",), ((at("x", "u"), "make"),)), (None, ())))

    def test_same(self):
        told = [(P, P), (P, join("a", P)), (join(P), join(P)), (both(say(1), P), both(say(2), P)),
                (both(P, say(1)), both(P, say(2))), (("map", (("k", P),)), ("map", (("k", join(P, P)),))),
                (both(both(P)), both(both(P))), (both(LATER, P), both(say(1), P)),
                (("map", (("k", both(P)), ("l", say(1)))), ("map", (("l", say(2)), ("k", both(P)))))]
        for one, other in told:
            self.refused(block_at("x"), net("w"), net("x", a=("same", one, other)))
            choice = ("if", UNSURE, one, other)
            self.refused(block_at("x"), net("w"), net("x", a=choice))
        fine = [(both(P), both(P, P)), (both(P, say(1)), both(say(1), P)), (("map", (("k", P),)), ("map", (("l", P),))),
                (both(P), P), (P, say("a")), (both(both(P, P)), both(both(P))), (both(P), ("map", (("k", P),))),
                (P, LATER), (both(P, LATER), both(LATER, P)), (("map", (("k", P), ("l", P))), ("map", (("k", P),)))]
        for one, other in fine:
            for value in (("same", one, other), ("if", UNSURE, one, other)):
                found = self.rows(Stand(), net("w"), net("x", a=value))
                self.assertEqual(found, ((None, ((at("w"), "make"), (X, "make"))),))

    def test_the_first_address(self):
        wrong = ("size", P)
        self.refused(block_at("w"), net("x", wrong), net("w", wrong), outputs=(("o", wrong),))
        self.refused(block_at("y"), net("x", of("y", "f")), net("y", wrong))
        self.refused(block_at("y"), net("x", ("tuple", (of("y", "f"), wrong))), net("y", wrong))
        self.refused(block_at("x"), net("x", ("tuple", (of("y", "f"), wrong))), net("y"))
        self.refused(block_at("r", "hold"), net("x", wrong), readings=(Reading("hold", "r", {"name": wrong}),))
        inner = Config(params=("q",), blocks=(net("y", ("size", param("q"))),), outputs=(("o", ("size", param("q"))),))
        call = Call("c", inner, {"q": P})
        self.refused(block_at("y", path=("c",)), calls=(call,))
        self.refused(block_at("x"), net("x", ("out", "c", "o")), calls=(call,))
        self.refused((), calls=(Call("c", Config(params=("q",), outputs=inner.outputs), {"q": P}),),
                     outputs=(("o", ("out", "c", "o")),))
        # An instance tells its block.
        self.refused(block_at("x"), net("x", wrong, many=("count", say(2))))

    def test_behind_other_errors(self):
        self.assertEqual(self.rows(Stand(), net("w", WRONG), net("x", ("size", P))), ((None, "Misfit"),))
        self.refused(block_at("w"), net("x", WRONG), net("w", ("size", P)))
        found = self.rows(Stand(), net("w", ("if", same(P, "u"), say(1), WRONG)), net("x", ("size", P)))
        self.assertEqual(found, ((("u",), ((at("w"), "make"), (X, "make"))), (None, "Misfit")))

    def test_what_is_not_taken_is_not_reckoned(self):
        value = ("if", say(False), ("size", P), say(1))
        self.assertEqual(self.rows(Stand(), net("x", value)), ((None, ((X, "make"),)),))
        # But what is named in it is.
        inner = Config(params=("q",), blocks=(net("y", ("if", say(False), param("q"), say(1))),))
        self.refused(block_at("y", path=("c",)), calls=(Call("c", inner, {"q": ("size", P)}),))


class ByChance(Impacts):
    def deeds(self, stand, config, text):
        try:
            return dict(plan(config, {"p": text}, stand.kinds, stand.state, stand.world).deeds)
        except PlanError as error:
            return type(error).__name__

    def test_all_texts(self):
        letters = [""] + ["".join(told) for size in (1, 2, 3, 4) for told in itertools.product("ab1", repeat=size)]
        letters += ["abab", "aabaab", "<a>", "<>", "zz", "#", "net", "a1a1"]
        told = refused = long = 0
        for seed in range(250):
            chance = Texts(seed)
            stand = Stand(kinds={"net": KINDS["net"]})
            stand.values = {"p": chance.random.choice(("a", "ab", "", "b"))}
            for _ in range(chance.random.randint(0, 2)):
                try:
                    stand.apply(chance.config())
                except PlanError:
                    pass
            config = chance.config()
            try:
                rows = impact(config, {}, stand.kinds, stand.state, stand.world, "p")
            except NotGeneric:
                refused += 1
                continue
            told += 1
            long += len(rows) > 1
            self.check(stand, config, rows, letters)
        self.assertGreater(told, 100)
        self.assertGreater(refused, 20)
        self.assertGreater(long, 50)

    def check(self, stand, config, rows, letters):
        self.assertEqual(len({repr(deeds) for _, deeds in rows}), len(rows))
        self.assertEqual([row[0] for row in rows[:-1]], sorted(row[0] for row in rows[:-1]))
        self.assertIsNone(rows[-1][0])
        row_of = {}
        for texts, deeds in rows[:-1]:
            self.assertEqual(texts, tuple(sorted(set(texts))))
            row_of.update({text: deeds for text in texts})
        for text in {*letters, *row_of}:
            deeds = row_of.get(text, rows[-1][1])
            found = self.deeds(stand, config, text)
            self.assertEqual(deeds if isinstance(deeds, str) else dict(deeds), found, text)


if __name__ == "__main__":
    unittest.main()
