"""Point 0.2, and what plans and applies promise together, by chance."""

import unittest

from chance import Things
from planfirst.configs import Call, Config
from planfirst.errors import PlanError
from planfirst.failures import left
from planfirst.impacts import impact
from planfirst.layout import needs
from planfirst.orders import longest, ring, rounds, steps
from planfirst.plans import is_empty
from planfirst.reasons import why
from planfirst.settling import alike, settles
from planfirst.staging import stages
from planfirst.values import agrees, is_known
from stand import Case, Stand, at, block_at, blocks, net, of, param, say
from test_orders import all_needed

WORDS = ("make", "change", "destroy", "read")


class Whole(Case):
    def plans(self, number, seeds):
        """Stands with plans by chance: each behind some applies, some of which fail or are broken off."""
        for seed in seeds:
            chance = Things(seed)
            stand = Stand()
            config = chance.config()
            for _ in range(number):
                config = chance.near(config) if chance.often(0.8) else chance.config()
                try:
                    found = stand.plan(config, replace=tuple(chance.some(stand.state.objects, 1)))
                except PlanError:
                    continue
                if ring(found) is not None:
                    continue
                yield chance, stand, found
                self.go_on(chance, stand, found)

    def go_on(self, chance, stand, found):
        told = steps(found)
        fails = {step: "before" for step in chance.some(told, 1)} if chance.often(0.4) else {}
        if fails and chance.often(0.5):
            fails = {step: "behind" if step[0] == "make" else "before" for step in fails}
        stand.do(found, fails=fails, until=chance.random.choice((None, None, len(told) // 2)))
        if chance.often(0.3) and stand.state.objects:
            address = chance.random.choice(list(stand.state.objects))
            kind = {"net": "a", "hold": "of", "read": "y"}[address[1]]
            stand.world.alter(stand.state.objects[address].tag, kind, chance.random.choice((None, 1, "u")))

    def test_what_is_known_is_what_comes(self):
        many = {word: 0 for word in (*WORDS, "nothing", "failed", "left")}
        for chance, stand, found in self.plans(4, range(300)):
            one = stand.copy()
            ends = one.do(found)
            self.assertEqual(set(ends), set(steps(found)))
            for step, end in ends.items():
                many[end if end != "done" else step[0]] += 1
                self.assertIn(end, ("done", "nothing", "failed", "left"))
                self.assertTrue(end != "nothing" or step[0] == "change")
            for address, planned in found.planned.items():
                words = {"replace": ("make", "destroy"), None: ()}.get(found.deeds.get(address),
                                                                       (found.deeds.get(address),))
                if len(address) == 4 and all(ends[(word, address)] in ("done", "nothing") for word in words):
                    self.held(one, planned, address, words)
            if set(ends.values()) <= {"done", "nothing"}:
                self.stands(one, found)
        self.assertGreater(many.pop("nothing"), 2)
        self.assertTrue(all(number > 15 for number in many.values()), many)

    def held(self, stand, planned, address, words):
        thing = stand.state.objects[address]
        self.assertEqual(set(planned), set(thing.attributes))
        for name in planned:
            self.assertTrue(agrees(planned[name], thing.attributes[name]), (address, name))
        self.assertTrue(is_known(thing.attributes))
        if words:
            kept = stand.world.things()[thing.tag][1]
            self.assertEqual((kept["id"], set(kept)), (thing.tag, set(planned)))

    def stands(self, stand, found):
        """Whether just what is wanted stands, in the state and in the world."""
        wanted = {address for address in found.planned if len(address) == 4}
        self.assertEqual(set(stand.state.objects), wanted)
        self.assertEqual(stand.state.deposed, {})
        tags = sorted(thing.tag[2] for thing in stand.state.objects.values())
        self.assertEqual(sorted(tag[2] for tag in stand.world.things()), tags)
        for name, value in found.outputs.items():
            if name in stand.state.outputs:
                self.assertTrue(agrees(value, stand.state.outputs[name]))
        direct = needs(found.config, found.kinds)
        for address in wanted:
            thing = stand.state.objects[address]
            blocks = {one for one in direct[address[:3]] if one != block_at("zz", "hold")}
            self.assertTrue(set(thing.needs) >= blocks)

    def test_nothing_is_left_to_do(self):
        """Without readings of any sort, the plan behind an apply in which nothing failed has no deed."""
        many = 0
        for chance, stand, found in self.plans(3, range(300)):
            if found.config.readings or any(address[1] == "read" for address in found.planned):
                continue
            one = stand.copy()
            ends = one.do(found)
            if set(ends.values()) <= {"done", "nothing"}:
                try:
                    again = one.plan(found.config)
                except PlanError as error:
                    self.assertEqual(type(error).__name__, "Misfit")
                    continue
                many += 1
                self.assertEqual(again.deeds, {})
                self.assertTrue(is_empty(again) or set(one.state.outputs) != set(again.outputs))
        self.assertGreater(many, 100)

    def test_targets_are_a_part_of_the_whole(self):
        many = 0
        for chance, stand, found in self.plans(4, range(200)):
            needed = all_needed(found.config, found.kinds)
            targets = tuple(chance.some([*found.planned, *stand.state.objects, *needed], 3))
            targets = tuple(one for one in targets if one[:3] != block_at("zz", "hold"))
            whole = {one for one in targets if len(one) == 3}
            for one in targets:
                whole |= needed.get(one[:3], set())
            replace = tuple(one for one in found.reasons if ("asked",) in found.reasons[one])
            part = stand.plan(found.config, targets=targets, replace=replace)

            def taken(one):
                one = one[0] if len(one) == 2 else one
                return one in targets or one[:3] in whole

            self.assertEqual(part.deeds, {one: word for one, word in found.deeds.items() if taken(one)})
            self.assertEqual(part.planned, {one: told for one, told in found.planned.items() if taken(one)})
            self.assertEqual(part.reasons, {one: told for one, told in found.reasons.items() if taken(one)})
            self.assertEqual((part.base, part.outputs), (found.base, stand.state.outputs))
            many += 0 < len(part.deeds) < len(found.deeds)
            self.assertIsNone(ring(part))
            before = stand.copy()
            if set(before.do(part).values()) <= {"done", "nothing"}:
                for one in found.base.objects:
                    if not taken(one):
                        self.assertEqual(before.state.objects[one], found.base.objects[one])
        self.assertGreater(many, 100)

    def test_settling(self):
        told = {"settled": 0, "ring": 0, "fails": 0, "refused": 0}
        for chance, stand, found in self.plans(2, range(150)):
            end = settles(found.config, {}, stand.kinds, stand.state, stand.world)
            told[end[0]] += 1
            applied = end[1] + (end[2] if end[0] == "ring" else 0)
            one = stand.copy()
            pairs = [one.copy()]
            for number in range(applied):
                plan = one.plan(found.config)
                self.assertNotEqual(plan.deeds, {})
                failed = "failed" in one.do(plan).values()
                self.assertEqual(failed, end == ("fails", number + 1))
                pairs.append(one.copy())
            like = [number for number, other in enumerate(pairs[:-1])
                    if alike(other.state, other.world, one.state, one.world)]
            if end[0] == "ring":
                self.assertEqual(like, [end[1]])
            elif end[0] == "settled":
                self.assertEqual(one.plan(found.config).deeds, {})
            elif end[0] == "refused":
                self.raises_by_name(end[2], one, found.config)
        self.assertTrue(all(told[word] > 2 for word in ("settled", "ring", "fails")), told)

    def raises_by_name(self, name, stand, config):
        with self.assertRaises(PlanError) as caught:
            stand.do(stand.plan(config))
        self.assertEqual(type(caught.exception).__name__, name)

    def test_each_step_changes_the_world_as_it_ends(self):
        for chance, stand, found in self.plans(3, range(150)):
            order = [step for step in stand.copy().do(found)]
            before = None
            for until in range(len(order) + 1):
                one = stand.copy()
                ends = one.do(found, until=until)
                now = repr(one.world.things())
                if before is not None:
                    gone = [step for step in ends if ends[step] != "open" and before[1][step] == "open"]
                    self.assertEqual(len(gone), 1)
                    self.assertEqual(ends[gone[0]] == "done" and gone[0][0] != "read", now != before[0])
                    self.assertTrue(all(ends[step] == before[1][step] for step in ends if step not in gone))
                before = now, ends

    def test_the_world_and_the_state_stay_together(self):
        """Whatever fails: each object of the state stands, and each that stands is known, but those of others."""
        for chance, stand, found in self.plans(5, range(200)):
            known = [thing.tag for thing in (*stand.state.objects.values(), *stand.state.deposed.values())]
            self.assertEqual(len(set(known)), len(known))
            self.assertEqual(set(known), set(stand.world.things()))


class Long(Case):
    """Ways as long as the document lets them be."""

    def test_expressions_within_one_another(self):
        joined, chosen = param("p"), say("t")
        for _ in range(201):
            joined, chosen = ("join", (joined,)), ("if", say(True), chosen, say("u"))
        config = Config(params=("p",), blocks=(net("x", joined, chosen), net("y", many=("keys", ("tuple", (chosen,))))),
                        outputs=(("o", joined),))
        stand = Stand(config, values={"p": "q"})
        self.assertEqual((stand.state.outputs, set(stand.state.objects)), ({"o": "q"}, {at("x"), at("y", "t")}))
        found = impact(config, {}, stand.kinds, stand.state, stand.world, "p")
        self.assertEqual(found, ((("q",), ()), (None, ((at("x"), "replace"),))))
        self.assertEqual(settles(config, {"p": "r"}, stand.kinds, stand.state, stand.world), ("settled", 1))
        self.assertEqual(stages(config, {"p": "r"}, stand.kinds, stand.state, stand.world), (None,))

    def test_blocks_one_behind_the_other(self):
        names = ["b" + chr(97 + number // 26) + chr(97 + number % 26) for number in range(201)]

        def config(value):
            return blocks(*[net(name, of(names[number - 1], "f") if number else say(value), first=number == 200)
                            for number, name in enumerate(names)])

        stand = Stand(config(1))
        found = stand.plan(config(2))
        self.assertEqual((len(rounds(found)), len(longest(found)), ring(found)), (402, 402, None))
        self.assertEqual(why(found, at(names[-1])), tuple(at(name) for name in names[::-1]))
        self.assertEqual(len(left(found, (("make", at(names[100])),))), 301)
        self.assertEqual(set(stand.do(found).values()), {"done"})
        self.assertTrue(is_empty(stand.plan(config(2))))

    def test_a_hundred_blocks_in_calls(self):
        inner = Config(params=("p",), blocks=(net("x", param("p")),), outputs=(("o", of("x", "f")),))
        names = ["c" + chr(97 + number // 26) + chr(97 + number % 26) for number in range(100)]
        calls = [Call(name, inner, {"p": ("out", names[number - 1], "o") if number else say(1)})
                 for number, name in enumerate(names)]
        stand = Stand()
        stand.apply(Config(calls=tuple(calls[::-1]), outputs=(("o", ("out", names[-1], "o")),)))
        self.assertEqual((stand.state.outputs, len(stand.state.objects)), ({"o": 1}, 100))
        self.assertEqual(len(stand.state.objects[at("x", path=(names[-1],))].needs), 99)


if __name__ == "__main__":
    unittest.main()
