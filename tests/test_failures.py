"""Points 7.3 and 7.4: what failing applies leave."""

import copy
import itertools
import unittest

import odd
from chance import Nets
from planfirst.configs import Config, Reading
from planfirst.errors import BadSteps, Misfit, Ring, Stale
from planfirst.failures import left, lost, stops
from planfirst.orders import ring, rounds, steps
from planfirst.reasons import causes
from planfirst.states import State, taint
from stand import Case, Stand, at, block_at, blocks, hold, net, of, say
from test_orders import Rules, sort


def make(name, key=None):
    return ("make", at(name, key))


def change(name, key=None):
    return ("change", at(name, key))


def destroy(name, key=None):
    return ("destroy", at(name, key))


class Bad(Case):
    def refused(self, deed, *passed):
        with self.assertRaises(BadSteps) as caught:
            deed(*passed)
        self.assertIsInstance(str(caught.exception), str)


class Left(Bad):
    def chain(self):
        """x, then y, then z; and w by itself."""
        return Stand().plan(blocks(net("x"), net("y", of("x", "id")), net("z", of("y", "id")), net("w")))

    def test_what_is_behind(self):
        plan = self.chain()
        self.assertEqual(left(plan, (make("x"),)), (make("y"), make("z")))
        self.assertEqual(left(plan, (make("y"),)), (make("z"),))
        self.assertEqual(left(plan, (make("z"),)), ())
        self.assertEqual(left(plan, (make("w"),)), ())
        self.assertEqual(left(plan, (make("w"), make("y"))), (make("z"),))
        self.assertEqual(left(plan, ()), ())

    def test_bad_steps(self):
        plan = self.chain()
        for failed in ((make("q"),), (make("x"), make("x")), (make("x"), make("y")), (make("y"), make("x")),
                       (make("x"), make("z")), (make("z"), make("w"), make("x")), (change("x"),), make("x"),
                       (make("w"), make("w"))):
            self.refused(left, plan, failed)
        for thing in odd.ALL:
            if thing != ():
                self.refused(left, plan, (thing,))
                self.refused(left, plan, (make("w"), ("make", thing)))
                self.refused(left, plan, thing)

    def test_ring_first(self):
        stand = Stand(blocks(net("x"), net("y")))
        for name, other in ("xy", "yx"):
            stand.put(at(name), needs=(block_at(other),))
        plan = stand.plan(Config())
        told = Ring(ring(plan))
        self.raises(told, left, plan, (make("q"),))
        self.raises(told, left, plan, ())
        self.raises(told, stops, plan)
        self.raises(told, lost, plan, stand.state, stand.world, (make("q"),))

    def test_by_chance(self):
        many = 0
        for seed in range(400):
            _, plan = Nets(seed).plan()
            if ring(plan) is not None:
                continue
            rules = Rules(plan)
            pairs = rules.all_pairs()
            for number in range(4):
                for failed in itertools.islice(itertools.combinations(rules.steps, number), 40):
                    if any((one, other) in pairs for one in failed for other in failed):
                        self.refused(left, plan, failed)
                        continue
                    many += 1
                    told = sort({other for one, other in pairs if one in failed})
                    self.assertEqual(left(plan, failed), told)
                    self.assertEqual(left(plan, failed[::-1]), told)
        self.assertGreater(many, 1000)

    def test_as_an_apply_has_it(self):
        for seed in range(150):
            stand, plan = Nets(seed).plan()
            if ring(plan) is not None:
                continue
            for step in steps(plan):
                ends = stand.copy().do(plan, fails={step: "before"})
                # Others may fail by themselves, or come to nothing; nothing else is left.
                failed = tuple(one for one in ends if ends[one] == "failed")
                told = left(plan, failed)
                self.assertEqual(told, sort(one for one in ends if ends[one] == "left"))


class Stops(Bad):
    def test_counts(self):
        self.assertEqual(stops(Stand().plan(Config())), 1)
        self.assertEqual(stops(Stand().plan(blocks(net("x")))), 2)
        chain = blocks(net("x"), net("y", of("x", "id")), net("z", of("y", "id")))
        self.assertEqual(stops(Stand().plan(chain)), 4)
        for number in (0, 1, 5, 14):
            self.assertEqual(stops(Stand().plan(blocks(net("x", many=("count", say(number)))))), 2 ** number)
        both = blocks(net("x", many=("count", say(7))), net("y", ("each", "net", "x", "id"), many=("count", say(7))))
        self.assertEqual(stops(Stand().plan(both)), 2 ** 7 + 2 ** 7 - 1)

    def test_one_by_one(self):
        for seed in range(250):
            _, plan = Nets(seed).plan(3)
            if ring(plan) is not None:
                continue
            rules = Rules(plan)
            number = 0
            for gone in itertools.product((False, True), repeat=len(rules.steps)):
                has = dict(zip(rules.steps, gone))
                number += all(has[one] or not has[other] for one, other in rules.pairs)
            self.assertEqual(stops(plan), number)


class Lost(Bad):
    def told(self, stand, config, *done, **more):
        plan = stand.plan(config, **more)
        before = copy.deepcopy((plan, stand.state, stand.world.things(), done))
        found = lost(plan, stand.state, stand.world, done)
        self.assertEqual((plan, stand.state, stand.world.things(), done), before)
        self.assertIsInstance(found, tuple)
        return found

    def by(self, what, y=None, **more):
        return blocks(net("x", replaced_by=what, **more), net("y", **(y or {})))

    def test_by_a_block(self):
        by = (("net", "y"),)
        stand = Stand(self.by(by))
        config = self.by(by, {"a": say(1)})
        # y is changed; the next plan knows nothing of it any more, so x is not replaced then.
        self.assertEqual(self.told(stand, config), ())
        self.assertEqual(self.told(stand, config, change("y")), (at("x"),))
        self.assertEqual(self.told(stand, config, destroy("x")), ())
        self.assertEqual(self.told(stand, config, change("y"), destroy("x")), ())
        self.assertEqual(self.told(stand, config, change("y"), destroy("x"), make("x")), ())
        # Of a replaced one its making or its destroying is enough.
        config = self.by(by, {"f": say(1)})
        self.assertEqual(self.told(stand, config, destroy("x")), ())
        self.assertEqual(self.told(stand, config, destroy("x"), destroy("y"), make("y")), ())
        config = blocks(net("x", replaced_by=by, ignored=("a",)), net("y", say(1)))
        stand.put(at("x"), needs=())
        self.assertEqual(self.told(stand, config, destroy("y")), (at("x"),))
        self.assertEqual(self.told(stand, config, destroy("y"), make("y")), (at("x"),))

    def test_by_an_attribute(self):
        by = (("net", "y", "a"), ("net", "y", "mark"))
        stand = Stand(self.by(by))
        config = self.by(by, {"a": say(1)})
        self.assertEqual(self.told(stand, config), ())
        self.assertEqual(self.told(stand, config, change("y")), (at("x"),))

    def test_by_several(self):
        by = (("net", "y"), ("net", "z"))

        def config(number):
            return blocks(net("x", replaced_by=by), net("y", a=say(number)), net("z", a=say(number)))

        stand = Stand(config(1))
        self.assertEqual(self.told(stand, config(2), change("y")), ())
        self.assertEqual(self.told(stand, config(2), change("z")), ())
        self.assertEqual(self.told(stand, config(2), change("y"), change("z")), (at("x"),))

        def config(number):
            return blocks(net("x", replaced_by=by[:1]), net("y", a=say(number), many=("count", say(2))))

        stand = Stand(config(1))
        self.assertEqual(self.told(stand, config(2), change("y", 0)), ())
        self.assertEqual(self.told(stand, config(2), change("y", 0), change("y", 1)), (at("x"),))

    def test_along_a_chain(self):
        config = blocks(net("x", replaced_by=(("net", "y"),)), net("y", replaced_by=(("net", "z"),)), net("z"))
        stand = Stand(config)
        config = blocks(*config.blocks[:2], net("z", a=say(1)))
        # The destroying of x and of y go ahead of their makings; z is free of them.
        self.assertEqual(self.told(stand, config, change("z")), (at("x"), at("y")))
        self.assertEqual(self.told(stand, config, change("z"), destroy("x")), (at("y"),))
        self.assertEqual(self.told(stand, config, destroy("x"), destroy("y")), ())

    def test_asked(self):
        config = blocks(net("x"), net("y"))
        stand = Stand(config)
        replace = (at("x"), at("y"))
        self.assertEqual(self.told(stand, config, replace=replace), replace)
        self.assertEqual(self.told(stand, config, destroy("x"), replace=replace), (at("y"),))
        self.assertEqual(self.told(stand, config, destroy("x"), make("x"), replace=replace), (at("y"),))
        first = blocks(net("x", first=True), net("y"))
        self.assertEqual(self.told(stand, first, make("x"), replace=replace), (at("y"),))

    def test_tainted_and_forced(self):
        stand = Stand(blocks(net("x", say(1)), net("y")))
        stand.state = taint(stand.state, at("y"))
        config = blocks(net("x", say(2)), net("y"))
        self.assertEqual(self.told(stand, config), ())
        self.assertEqual(self.told(stand, config, replace=(at("x"), at("y"))), ())

    def test_forced_by_what_is_not_known_any_more(self):
        # x is forced as the mark of y is not known; the change of y is done by others ahead of the next plan.
        stand = Stand(blocks(net("x", of("y", "mark")), net("y", a=say(1))))
        config = blocks(net("x", of("y", "mark")), net("y", a=say(2)))
        self.assertEqual(self.told(stand, config, change("y")), ())
        stand = Stand(blocks(net("x", of("y", "a")), net("y", a=say(1))))
        config = blocks(net("x", of("y", "a")), net("y", a=say(1), first=True))
        self.assertEqual(self.told(stand, config, replace=(at("x"),)), (at("x"),))

    def test_forced_by_a_change_that_comes_to_nothing(self):
        # The mark of y counts as unknown in the plan, yet the change of y comes to nothing.
        def config(f):
            return blocks(net("x", of("y", "mark")), net("y", a=("same", of("z", "id"), say(1))), net("z", say(f)))

        stand = Stand(config(1))
        done = (destroy("z"), make("z"), change("y"))
        stand.put(at("x"), needs=())
        stand.put(at("y"), needs=())
        self.assertEqual(self.told(stand, config(2)), ())
        self.assertEqual(self.told(stand, config(2), *done), (at("x"),))

    def test_deposed_ones_do_not_count(self):
        stand = Stand(blocks(net("x"), net("y")))
        stand.depose(at("y"), 1)
        stand.state = State(stand.state.objects, {(at("x"), 1): stand.state.deposed[(at("y"), 1)]}, {}, 1)
        config = blocks(net("x"))
        self.assertEqual(self.told(stand, config, ("destroy", at("x"), 1), replace=(at("x"),)), (at("x"),))
        self.assertEqual(self.told(stand, config, ("destroy", at("x"), 1), destroy("x"), replace=(at("x"),)), ())

    def test_targets_and_values(self):
        config = Config(params=("p",), blocks=(net("x", ("param", "p")), net("y", ("param", "p"))))
        stand = Stand(config, values={"p": 1})
        self.assertEqual(self.told(stand, config, replace=(at("x"), at("y")), targets=(block_at("x"),)), (at("x"),))
        stand.values = {"p": 2}
        self.assertEqual(self.told(stand, config, replace=(at("x"),), targets=(block_at("x"),)), ())
        # Destroying everything replaces nothing.
        self.assertEqual(self.told(stand, config, destroy("x"), destroy=True), ())

    def test_errors(self):
        stand = Stand(blocks(net("x", say(1)), net("y", of("x", "id"))))
        plan = stand.plan(blocks(net("x", say(2)), net("y", of("x", "id"))))
        one = (plan, stand.state, stand.world)
        self.raises(Stale(5), lost, plan, State({}, {}, {}, 5), stand.world, (make("q"),))
        for done in ((make("q"),), (destroy("y"), destroy("y")), (destroy("x"),), (make("x"),),
                     (destroy("y"), make("x")), (destroy("y"), destroy("x"), make("y")), make("x"), [destroy("y")]):
            self.refused(lost, *one, done)
        for thing in odd.ALL:
            if thing != ():
                self.refused(lost, *one, (thing,))
                self.refused(lost, *one, thing)
        self.assertEqual(lost(*one, (destroy("x"), destroy("y"))), ())

    def test_steps_that_end_otherwise(self):
        stand = Stand(blocks(hold("a", say("n")), net("x")))
        config = blocks(hold("a", say("n")), hold("b", say("n")), net("x"))
        plan = stand.plan(config, replace=(at("x"),))
        step = ("make", at("b", None, "hold"))
        self.refused(lost, plan, stand.state, stand.world, (step,))
        self.assertEqual(lost(plan, stand.state, stand.world, ()), (at("x"),))
        self.assertEqual(len(stand.world.things()), 2)

    def test_what_the_next_plan_raises(self):
        wrong = ("if", ("same", of("x", "f"), say(2)), ("size", of("y", "id")), say(1))
        stand = Stand(blocks(net("x", say(1)), net("y")))
        config = blocks(net("x", say(2)), net("y"), net("z", wrong))
        plan = stand.plan(config, replace=(at("y"),))
        self.raises(Misfit(wrong[2]), lost, plan, stand.state, stand.world, ())

    def test_a_reading_in_the_next_plan(self):
        def config(f):
            reading = Reading("net", "r", {}, after=(("net", "y"),))
            return blocks(net("x", of("r", "size")), net("y", say(f)), readings=(reading,))

        stand = Stand(config(1))
        done = (("destroy", at("x")), destroy("y"), make("y"))
        self.assertEqual(self.told(stand, config(2), *done), ())

    def test_what_is_told_of_asked_and_by(self):
        """The last sentence of 7.4, by chance."""
        many = 0
        for seed in range(1500):
            chance = Nets(seed)
            chance.replacing, chance.referring = 0.8, 0.1
            stand, plan = chance.plan()
            if ring(plan) is not None:
                continue
            order = [step for level in rounds(plan) for step in level]
            done = tuple(order[:chance.random.randint(0, len(order))])
            try:
                found = lost(plan, stand.state, stand.world, done)
            except BadSteps:
                continue
            for address, reasons in plan.reasons.items():
                if plan.deeds[address] == "replace" and self.is_told(plan, address, reasons, done):
                    many += 1
                    self.assertIn(address, found, seed)
        self.assertGreater(many, 20)

    def is_told(self, plan, address, reasons, done):
        if ("make", address) in done or ("destroy", address) in done:
            return False
        for reason in reasons:
            if reason[0] not in ("asked", "by"):
                return False
            if reason[0] == "by":
                for one in dict(causes(plan, address))[reason]:
                    if not any((word, one) in done for word in ("change", "make", "destroy")):
                        return False
        return True


if __name__ == "__main__":
    unittest.main()
