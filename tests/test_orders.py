"""Points 6.1 to 6.4: orders."""

import itertools
import unittest

import odd
from chance import Nets
from planfirst.configs import Call, Config, Reading
from planfirst.errors import Ring
from planfirst.layout import needs
from planfirst.orders import first_marks, is_order, longest, ring, rounds, rows, steps
from stand import Case, Stand, at, block_at, blocks, net, of, say


def place(step):
    """What steps are sorted by."""
    address = step[1]
    key = (0, "") if len(address) == 3 else (1, "") if address[3] is None else (2, address[3], "")
    if len(address) == 4 and isinstance(address[3], str):
        key = (3, address[3])
    return (address[:3], key, step[0], step[2] if len(step) == 3 else 0)


def sort(thing):
    return tuple(sorted(thing, key=place))


def all_needed(config, kinds):
    """What each block or reading needs, directly or by others."""
    direct = needs(config, kinds)
    found = {one: set(direct[one]) for one in direct}
    for _ in direct:
        for one in found:
            found[one] = found[one].union(*[found[other] for other in found[one]])
    return found


class Rules:
    """What must go ahead, as the document tells it, over all pairs of steps."""

    def __init__(self, plan, marks=()):
        self.plan = plan
        self.needed = all_needed(plan.config, plan.kinds)
        self.marks = marks
        self.steps = []
        for address, word in plan.deeds.items():
            if word == "replace":
                self.steps += [("make", address), ("destroy", address)]
            elif len(address) == 2:
                self.steps.append(("destroy", *address))
            else:
                self.steps.append((word, address))
        self.steps = sort(self.steps)
        self.written = {((), block.kind, block.name): block for block in plan.config.blocks}
        self.firsts = [one for one in self.written if self.written[one].first or one in marks]
        self.firsts += [other for one in self.firsts for other in self.needed[one]]
        self.pairs = {(one, other) for one in self.steps for other in self.steps if self.must(one, other)}

    def thing(self, step):
        return self.plan.base.deposed[step[1:]] if len(step) == 3 else self.plan.base.objects[step[1]]

    def is_first(self, step):
        if len(step) == 3:
            return True
        if step[1][:3] in self.written:
            return step[1][:3] in self.firsts
        return self.thing(step).first

    def must(self, one, other):
        """Whether the one must go ahead of the other by a rule itself."""
        forward = ("make", "change", "read")
        if one[0] in forward and other[0] in forward:
            return one[1][:3] in self.needed[other[1][:3]]
        if one[0] == other[0] == "destroy":
            return one[1] != other[1] and other[1][:3] in self.thing(one).needs
        destroying, going = (one, other) if one[0] == "destroy" else (other, one)
        if self.plan.deeds[going[1]] not in ("replace", "change"):
            return False
        if going[1] == destroying[1]:
            told = len(destroying) == 2
        else:
            told = destroying[1][:3] in self.plan.base.objects[going[1]].needs
        return told and (self.is_first(destroying) == (one == going))

    def all_pairs(self):
        """The pairs and all that follow from them."""
        found = set(self.pairs)
        for middle in self.steps:
            found |= {(one, other) for one in self.steps for other in self.steps
                      if (one, middle) in found and (middle, other) in found}
        return found

    def has_ring(self):
        return any(one == other for one, other in self.all_pairs())

    def shortest_ring(self):
        """All rings from their least step on, longer and longer."""
        ways = [(step,) for step in self.steps]
        while ways:
            rings = [way for way in ways if (way[-1], way[0]) in self.pairs]
            if rings:
                return min(rings, key=lambda way: [place(step) for step in way])
            ways = [(*way, step) for way in ways for step in self.steps
                    if (way[-1], step) in self.pairs and place(step) > place(way[0]) and step not in way]
        return None

    def chains(self):
        """All chains of the greatest length."""
        chains, found = [(step,) for step in self.steps], [()]
        while chains:
            found = chains
            chains = [(*chain, step) for chain in chains for step in self.steps if (chain[-1], step) in self.pairs]
        return found


class ByChance(Case):
    def test_all_of_it(self):
        rings = marked = 0
        for seed in range(1000):
            _, plan = Nets(seed).plan()
            rules = Rules(plan)
            with self.subTest(seed=seed):
                self.assertEqual(steps(plan), rules.steps)
                if rules.has_ring():
                    rings += 1
                    self.with_ring(plan, rules)
                else:
                    self.without_ring(plan, rules)
                if len(rules.steps) <= 9:
                    marked += bool(self.marks(plan, rules))
        self.assertGreater(rings, 60)
        self.assertGreater(marked, 10)

    def with_ring(self, plan, rules):
        found = ring(plan)
        self.assertEqual(found, rules.shortest_ring())
        for deed in (rows, rounds, longest):
            self.raises(Ring(found), deed, plan)
        self.assertIs(is_order(plan, rules.steps), False)

    def without_ring(self, plan, rules):
        self.assertIsNone(ring(plan))
        pairs = rules.all_pairs()
        fewest = [pair for pair in pairs if not any((pair[0], one) in pairs and (one, pair[1]) in pairs
                                                    for one in rules.steps)]
        self.assertEqual(rows(plan), tuple(sorted(fewest, key=lambda pair: (place(pair[0]), place(pair[1])))))
        chains = rules.chains()
        self.assertEqual(longest(plan), min(chains, key=lambda chain: [place(step) for step in chain]))
        told, number = rounds(plan), {}
        for step in rules.steps:
            self.round_of(step, pairs, number)
        levels = [sort(step for step in number if number[step] == level) for level in range(len(chains[0]))]
        self.assertEqual(told, tuple(levels))
        order = [step for level in told for step in level]
        self.assertIs(is_order(plan, order), True)
        self.orders(plan, order, pairs)

    def round_of(self, step, pairs, number):
        if step not in number:
            number[step] = max([self.round_of(one, pairs, number) + 1 for one, other in pairs if other == step],
                               default=0)
        return number[step]

    def orders(self, plan, order, pairs):
        """Two steps changed for each other, wherever they stand."""
        for one, other in itertools.combinations(range(len(order)), 2):
            changed = list(order)
            changed[one], changed[other] = changed[other], changed[one]
            told = not any((late, early) in pairs for early, late in itertools.combinations(changed, 2))
            self.assertIs(is_order(plan, tuple(changed)), told)

    def marks(self, plan, rules):
        torn = sort(("x", one[:3]) for one in {address[:3]: 0 for address, word in plan.deeds.items()
                                              if len(address) == 4 and word in ("replace", "destroy")})
        can = [one[1] for one in torn if one[1] in rules.written and one[1] not in rules.firsts]
        for number in range(len(can) + 1):
            for marks in itertools.combinations(can, number):
                if not Rules(plan, marks).has_ring():
                    self.assertEqual(first_marks(plan), marks)
                    return marks
        self.assertIsNone(first_marks(plan))
        return None


class Steps(Case):
    def test_nothing(self):
        plan = Stand().plan(Config())
        self.assertEqual((steps(plan), rows(plan), rounds(plan), longest(plan), ring(plan), first_marks(plan)),
                         ((), (), (), (), None, ()))
        self.assertIs(is_order(plan, ()), True)
        self.assertIs(is_order(plan, []), True)

    def test_words_and_their_order(self):
        many = ("keys", say(("0", "")))
        stand = Stand(blocks(net("a", say(1)), net("b", many=("count", say(11))), net("d", many=many), net("e")))
        stand.depose(at("a"), 2)
        stand.depose(at("e"), 10, stand.state.objects[at("e")])
        stand.depose(at("d", "0"), 9)
        reading = Reading("net", "d", {}, after=(("net", "e"),))
        config = blocks(net("a"), net("b", say(1), many=("count", say(3))), net("e"), readings=(reading,))
        told = (("destroy", at("a"), 2), ("make", at("a")),
                *[(word, at("b", index)) for index in range(3) for word in ("destroy", "make")],
                *[("destroy", at("b", index)) for index in range(3, 11)],
                ("read", block_at("d")), ("destroy", at("d", "")), ("destroy", at("d", "0"), 9),
                ("destroy", at("e"), 10), ("make", at("e")))
        self.assertEqual(steps(stand.plan(config)), told)

    def test_numbers_behind_none(self):
        stand = Stand(blocks(net("a"), net("b"), net("c")))
        objects = stand.state.objects
        stand.depose(at("a"), 10, objects[at("b")])
        stand.state = type(stand.state)(objects, {(at("a"), 10): objects[at("b")], (at("a"), 9): objects[at("c")]}, {},
                                        1)
        self.assertEqual(steps(stand.plan(Config()))[:3], (
            ("destroy", at("a")), ("destroy", at("a"), 9), ("destroy", at("a"), 10)))

    def test_a_change(self):
        stand = Stand(blocks(net("a")))
        self.assertEqual(steps(stand.plan(blocks(net("a", a=say(1))))), (("change", at("a")),))


class Needs(Case):
    """Rules a and b by themselves."""

    def test_makings_behind_what_they_need(self):
        config = blocks(net("a", of("b", "id")), net("b", of("c", "id")), net("c"), net("d"))
        plan = Stand().plan(config)
        makes = {name: ("make", at(name)) for name in "abcd"}
        self.assertEqual(rounds(plan), ((makes["c"], makes["d"]), (makes["b"],), (makes["a"],)))
        self.assertEqual(rows(plan), ((makes["b"], makes["a"]), (makes["c"], makes["b"])))
        self.assertEqual(longest(plan), (makes["c"], makes["b"], makes["a"]))

    def test_by_others_that_have_no_step(self):
        stand = Stand(blocks(net("b", of("c", "f")), net("c")))
        plan = stand.plan(blocks(net("a", of("b", "id")), net("b", of("c", "f")), net("c", a=say(1))))
        self.assertEqual(rows(plan), ((("change", at("c")), ("make", at("a"))),))

    def test_instances_of_one_block_are_free(self):
        config = blocks(net("a", many=("count", say(3))), net("b", ("each", "net", "a", "id"), many=("count", say(2))))
        plan = Stand().plan(config)
        self.assertEqual([len(one) for one in rounds(plan)], [3, 2])
        self.assertEqual(len(rows(plan)), 6)

    def test_reads(self):
        reading = Reading("net", "r", {}, after=(("net", "a"),))
        plan = Stand().plan(blocks(net("a"), net("b", of("r", "size")), readings=(reading,)))
        self.assertEqual(longest(plan), (("make", at("a")), ("read", block_at("r")), ("make", at("b"))))

    def test_no_read_behind_a_destroying(self):
        stand = Stand(blocks(net("a", many=("count", say(2)))))
        reading = Reading("net", "r", {}, after=(("net", "a"),))
        plan = stand.plan(blocks(net("a", many=("count", say(1))), readings=(reading,)))
        self.assertEqual((rows(plan), steps(plan)), ((), (("destroy", at("a", 1)), ("read", block_at("r")))))

    def test_destroyings(self):
        stand = Stand(blocks(net("a", of("b", "id")), net("b", of("c", "id")), net("c"), net("d")))
        plan = stand.plan(Config())
        gone = {name: ("destroy", at(name)) for name in "abcd"}
        self.assertEqual(rounds(plan), ((gone["a"], gone["d"]), (gone["b"],), (gone["c"],)))
        self.assertEqual(rows(plan), ((gone["a"], gone["b"]), (gone["b"], gone["c"])))
        self.assertEqual(stand.plan(Config(), destroy=True).deeds, plan.deeds)
        self.assertEqual(rows(stand.plan(Config(), destroy=True)), rows(plan))

    def test_another_address(self):
        stand = Stand(blocks(net("a", many=("count", say(2)))))
        for index in range(2):
            stand.put(at("a", index), needs=(block_at("a"),))
        plan = stand.plan(Config())
        self.assertEqual(ring(plan), (("destroy", at("a", 0)), ("destroy", at("a", 1))))
        stand.put(at("a", 1), needs=())
        self.assertEqual(rows(stand.plan(Config())), ((("destroy", at("a", 0)), ("destroy", at("a", 1))),))
        # One that is deposed at the same address is no other.
        stand = Stand(blocks(net("a"), net("b")))
        one, other = (stand.state.objects[at(name)] for name in "ab")
        stand.put(at("a"), needs=(block_at("a"),))
        stand.depose(at("b"), 1)
        stand.state = type(stand.state)({at("a"): stand.state.objects[at("a")]},
                                        {(at("a"), 1): stand.state.objects[at("a")]}, {}, 1)
        self.assertEqual((rows(stand.plan(Config())), len(steps(stand.plan(Config())))), ((), 2))


class Firsts(Case):
    """Rules c and d, and what is first."""

    def config(self, f=1, first=False, **more):
        return blocks(net("x", say(f), first=first), net("y", of("x", "id"), **more))

    def test_replaced(self):
        make, destroy = ("make", at("x")), ("destroy", at("x"))
        stand = Stand(blocks(net("x", say(1))))
        self.assertEqual(rounds(stand.plan(blocks(net("x", say(2))))), ((destroy,), (make,)))
        self.assertEqual(rounds(stand.plan(blocks(net("x", say(2), first=True)))), ((make,), (destroy,)))
        # What the object was when it was applied last does not matter while its block is written.
        stand = Stand(blocks(net("x", say(1), first=True)))
        self.assertEqual(rounds(stand.plan(blocks(net("x", say(2))))), ((destroy,), (make,)))

    def test_first_by_what_needs_it(self):
        stand = Stand(self.config())
        plan = stand.plan(self.config(2))
        gone, made = ("destroy", at("x")), ("make", at("x"))
        self.assertLess(rows(plan).index((gone, made)), 9)
        plan = stand.plan(blocks(net("x", say(2)), net("y", of("x", "id"), first=True)))
        self.assertEqual(rounds(plan), ((made,), (("make", at("y")),), (("destroy", at("y")),), (gone,)))
        # Also by others, a reading among them.
        reading = Reading("net", "r", {"a": of("x", "id")})
        stand = Stand(blocks(net("x", say(1))))
        plan = stand.plan(blocks(net("x", say(2)), net("z", of("r", "size"), first=True), readings=(reading,)))
        self.assertIn((made, gone), rows(plan))

    def test_in_calls(self):
        inner = Config(params=("p",), blocks=(net("y", ("tuple", (("param", "p"),)), first=True),))
        stand = Stand(blocks(net("x", say(1))))
        plan = stand.plan(blocks(net("x", say(2)), calls=(Call("c", inner, {"p": of("x", "id")}),)))
        self.assertIn((("make", at("x")), ("destroy", at("x"))), rows(plan))

    def test_changes_and_what_they_needed(self):
        # y needed x, which is destroyed now, or replaced.
        stand = Stand(self.config())
        stand = Stand(blocks(net("x", say(1)), net("y", a=of("x", "id"))))
        change, gone = ("change", at("y")), ("destroy", at("x"))
        self.assertEqual(rounds(stand.plan(blocks(net("y")))), ((gone,), (change,)))
        made = ("make", at("x"))
        plan = stand.plan(blocks(net("x", say(2)), net("y", a=of("x", "id"))))
        self.assertEqual(rounds(plan), ((gone,), (made,), (change,)))
        plan = stand.plan(blocks(net("x", say(2), first=True), net("y", a=of("x", "id"))))
        self.assertEqual(rounds(plan), ((made,), (change,), (gone,)))
        # Its block is not written, so it is first by its own first.
        stand.put(at("x"), first=True)
        self.assertEqual(rounds(stand.plan(blocks(net("y")))), ((change,), (gone,)))

    def test_replaced_and_what_they_needed(self):
        stand = Stand(blocks(net("x", say(1)), net("y", say(1), after=(("net", "x"),))))
        made, old, gone = ("make", at("y")), ("destroy", at("y")), ("destroy", at("x"))
        self.assertEqual(rounds(stand.plan(blocks(net("y")))), ((old,), (gone,), (made,)))
        plan = stand.plan(blocks(net("y", first=True)))
        self.assertEqual(ring(plan), (("destroy", at("x")), ("make", at("y")), ("destroy", at("y"))))
        self.assertIs(is_order(plan, (gone, made, old)), False)
        self.raises(Ring(ring(plan)), rounds, plan)
        stand.put(at("x"), first=True)
        self.assertEqual(rounds(stand.plan(blocks(net("y", first=True)))), ((made,), (old,), (gone,)))

    def test_deposed_ones_are_first(self):
        stand = Stand(blocks(net("x", say(1)), net("y", a=of("x", "id"))))
        stand.depose(at("x"), 1)
        plan = stand.plan(blocks(net("x"), net("y", a=of("x", "id"))))
        self.assertEqual(longest(plan), (("make", at("x")), ("change", at("y")), ("destroy", at("x"), 1)))
        # A deposed one goes ahead of the destroying of what it needed.
        stand = Stand(blocks(net("x", say(1)), net("y", a=of("x", "id"))))
        stand.depose(at("y"), 1)
        self.assertEqual(rows(stand.plan(Config())), ((("destroy", at("y"), 1), ("destroy", at("x"))),))

    def test_a_change_of_another_instance(self):
        # An object that needed its own block: only other addresses count.
        stand = Stand(blocks(net("x", a=("own", "index"), many=("count", say(2)))))
        stand.put(at("x", 0), needs=(block_at("x"),))
        plan = stand.plan(blocks(net("x", say(1), many=("count", say(1)))))
        self.assertEqual(rows(plan), (
            (("destroy", at("x", 0)), ("destroy", at("x", 1))), (("destroy", at("x", 1)), ("make", at("x", 0)))))

    def test_targets_and_destroying(self):
        stand = Stand(blocks(net("x", say(1)), net("y", of("x", "id"), first=True)))
        plan = stand.plan(blocks(net("x", say(2)), net("y", of("x", "id"), first=True)), targets=(block_at("x"),))
        # x is first by y, which is not taken.
        self.assertEqual(rounds(plan), ((("make", at("x")),), (("destroy", at("x")),)))


class Rings(Case):
    def ringed(self, number=2):
        """x and y are replaced, each needed the other one by what was kept."""
        names = "xyzw"[:number]
        stand = Stand(blocks(*[net(name, say(1)) for name in names]))
        for place, name in enumerate(names):
            stand.put(at(name), needs=(block_at(names[place - 1]),))
        return stand

    def test_a_ring_of_two(self):
        plan = self.ringed().plan(Config())
        told = (("destroy", at("x")), ("destroy", at("y")))
        self.assertEqual(ring(plan), told)
        for deed in (rows, rounds, longest):
            self.raises(Ring(told), deed, plan)
        self.assertIs(is_order(plan, told), False)
        self.assertIs(is_order(plan, told[::-1]), False)

    def test_longer_rings(self):
        for number in (3, 4):
            plan = self.ringed(number).plan(Config())
            gone = {name: ("destroy", at(name)) for name in "xyzw"}
            told = [gone[name] for name in "wzyx" if name in "xyzw"[:number]]
            start = told.index(min(told, key=place))
            self.assertEqual(ring(plan), tuple(told[start:] + told[:start]))

    def test_of_several_the_least(self):
        names = "abcdef"
        stand = Stand(blocks(*[net(name) for name in names]))
        for one, other in ("ae", "ea", "bc", "cb", "df", "fd", "ab", "ba"):
            old = stand.state.objects[at(one)].needs
            stand.put(at(one), needs=tuple(sorted((*old, block_at(other)))))
        self.assertEqual(ring(stand.plan(Config())), (("destroy", at("a")), ("destroy", at("b"))))

    def test_a_ring_that_no_other_step_is_on(self):
        stand = self.ringed()
        plan = stand.plan(blocks(*[net(name) for name in "ab"]))
        self.assertEqual(len(steps(plan)), 4)
        self.assertEqual(ring(plan), (("destroy", at("x")), ("destroy", at("y"))))
        self.raises(Ring(ring(plan)), rounds, plan)

    def test_none_without_deposed_ones_and_with_needs_of_now(self):
        for seed in range(300):
            chance = Nets(seed)
            names = ["a", "b", "c", "d", "e"]
            stand = Stand(chance.config(names, 1))
            config = chance.config(names, 2)
            written = all_needed(config, stand.kinds)
            for address in list(stand.state.objects):
                stand.put(address, needs=tuple(sorted(written[address[:3]])), first=chance.often(0.5))
            self.assertIsNone(ring(stand.plan(config)))


class Orders(Case):
    def test_things_of_any_sort(self):
        plan = Stand().plan(blocks(net("a"), net("b")))
        one, other = steps(plan)
        self.assertIs(is_order(plan, (one, other)), True)
        self.assertIs(is_order(plan, [other, one]), True)
        for thing in ((one,), (one, other, other), (one, one), (), (one, other, ("destroy", at("a"))), {one: other},
                      {one, other}, iter((one, other)), "ab", None, one, (one, ("make", ((), "net", "b", True)))):
            self.assertIs(is_order(plan, thing), False)
        for thing in odd.ALL:
            self.assertIs(is_order(plan, thing), False)
            self.assertIs(is_order(plan, (one, thing)), False)
            self.assertIs(is_order(plan, (one, ("make", thing))), False)
            self.assertIs(is_order(plan, (one, ("make", ((), "net", "b", thing)))), thing is None)
            self.assertIs(is_order(plan, (one, (thing, at("b")))), False)
            self.assertIs(is_order(plan, (one, ("make", (thing, "net", "b", None)))), thing == ())

    def test_numbers(self):
        stand = Stand(blocks(net("a")))
        stand.depose(at("a"), 1)
        plan = stand.plan(Config())
        self.assertIs(is_order(plan, (("destroy", at("a"), 1),)), True)
        for thing in (True, 1.0, 0, -1, "1", None, [], {}, (1,), odd.ALL):
            self.assertIs(is_order(plan, (("destroy", at("a"), thing),)), False)

    def test_one_and_true(self):
        plan = Stand().plan(blocks(net("a", many=("count", say(2)))))
        self.assertIs(is_order(plan, (("make", at("a", 0)), ("make", at("a", 1)))), True)
        self.assertIs(is_order(plan, (("make", at("a", 0)), ("make", at("a", True)))), False)


class Marks(Case):
    def test_none_needed(self):
        self.assertEqual(first_marks(Stand().plan(blocks(net("a")))), ())

    def replaced(self, *names):
        """All are replaced, x first and without the needs that it had."""
        stand = Stand(blocks(*[net(name) for name in names], net("x", after=tuple(("net", name) for name in names))))
        return stand.plan(blocks(*[net(name, say(1)) for name in names], net("x", say(1), first=True)))

    def test_the_fewest(self):
        plan = self.replaced("y")
        self.assertEqual(ring(plan), (("destroy", at("x")), ("destroy", at("y")), ("make", at("x"))))
        self.assertEqual(first_marks(plan), (block_at("y"),))
        self.assertEqual(first_marks(self.replaced("y", "z")), (block_at("y"), block_at("z")))
        self.assertEqual(first_marks(self.replaced(*"abcdefgh")), tuple(block_at(name) for name in "abcdefgh"))

    def test_of_several_the_least(self):
        # v, or one of w and y by which v is first too.
        stand = Stand(blocks(net("v"), net("x", after=(("net", "v"),))))
        config = blocks(net("x", say(1), first=True), net("v", say(1)), net("y", of("v", "f")), net("w", of("v", "f")))
        stand.apply(blocks(net("x", after=(("net", "v"),)), net("v"), net("y"), net("w")))
        self.assertEqual(first_marks(stand.plan(config)), (block_at("v"),))
        config = blocks(net("x", say(1), first=True), net("v", say(1), first=True), net("y", of("v", "f")))
        self.assertEqual(first_marks(stand.plan(config)), ())

    def test_only_what_is_torn_is_marked(self):
        # a would make v first too, but it is only changed.
        stand = Stand(blocks(net("a", a=say(1)), net("v"), net("x", after=(("net", "v"),))))
        config = blocks(net("x", say(1), first=True), net("v", say(1)), net("a", a=say(2), after=(("net", "v"),)))
        self.assertEqual(first_marks(stand.plan(config)), (block_at("v"),))
        # Nor is what is first already, or not written: nothing helps where u is not.
        stand = Stand(blocks(net("u"), net("x", after=(("net", "u"),))))
        self.assertIsNone(first_marks(stand.plan(blocks(net("x", say(1), first=True)))))

    def test_sorted(self):
        # What is destroyed comes behind what is replaced in a plan, but not here.
        stand = Stand(blocks(net("a", many=("count", say(2))), net("b"), net("x", after=(("net", "a"), ("net", "b")))))
        config = blocks(net("a", many=("count", say(1))), net("b", say(1)), net("x", say(1), first=True))
        self.assertEqual(first_marks(stand.plan(config)), (block_at("a"), block_at("b")))

    def test_no_marks_help(self):
        stand = Stand(blocks(net("x"), net("y")))
        stand.put(at("x"), needs=(block_at("y"),))
        stand.put(at("y"), needs=(block_at("x"),))
        self.assertIsNone(first_marks(stand.plan(Config())))
        self.assertIsNone(first_marks(stand.plan(blocks(net("x", say(1)), net("y", say(1))))))


class Large(Case):
    def test_forty_instances(self):
        def config(version, first=False):
            found = []
            for place in range(40):
                name = "b" + chr(97 + place // 20) + chr(97 + place % 20)
                others = tuple(of(one.name, "id") for one in found)
                found.append(net(name, ("tuple", (say(version), *others)), first=first))
            return blocks(*found)

        stand = Stand(config(1))
        for first in (False, True):
            plan = stand.plan(config(2, first))
            self.assertEqual((len(steps(plan)), len(rounds(plan)), len(rows(plan))), (80, 80, 79))
            self.assertEqual(longest(plan), tuple(step for level in rounds(plan) for step in level))
            self.assertIs(is_order(plan, longest(plan)), True)
            self.assertEqual((ring(plan), first_marks(plan)), (None, ()))

    def test_forty_instances_and_a_ring(self):
        names = ["b" + chr(97 + place // 20) + chr(97 + place % 20) for place in range(40)]
        stand = Stand(blocks(*[net(name) for name in names]))
        for place, name in enumerate(names):
            stand.put(at(name), needs=tuple(block_at(one) for one in names if one != name)[:place])
        stand.put(at(names[0]), needs=(block_at(names[-1]),))
        plan = stand.plan(blocks(*[net(name, say(1)) for name in names[:8]]))
        self.assertEqual(ring(plan), (("destroy", at(names[0])), ("destroy", at(names[-1]))))
        self.assertIsNone(first_marks(plan))


if __name__ == "__main__":
    unittest.main()
