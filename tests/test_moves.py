"""Point 4.1: moves."""

import copy
import itertools
import random
import unittest

from planfirst.configs import Block, Call, Config, Move
from planfirst.moves import moved
from planfirst.states import Object, State, empty

ONE = ("say", 1)


def thing(number, needs=(), **others):
    told = {"attributes": {"a": {"b": 1}}, "tainted": False, "first": False, **others}
    return Object(("#", "net", number), told["attributes"], told["tainted"], needs, told["first"])


def at(name, key=None, path=()):
    return (path, "net", name, key)


def block(name, path=()):
    return (path, "net", name)


def move(old, new):
    """A move of blocks that are told by names, or of instances that are told by (name, key)."""
    old, new = [(one,) if isinstance(one, str) else one for one in (old, new)]
    return Move(("net", *old), ("net", *new))


class Case(unittest.TestCase):
    def moves(self, objects, expected, notes, *moves, deposed=(), then=(), **parts):
        """Whether the moves, in each order of writing, bring the numbers of objects where they are expected."""
        old = State({one: thing(number) for one, number in objects.items()},
                    {one: thing(number) for one, number in dict(deposed).items()}, {"o": 1}, 7)
        new = State({one: thing(number) for one, number in expected.items()},
                    {one: thing(number) for one, number in dict(then).items()}, {"o": 1}, 7)
        before = copy.deepcopy(old)
        for order in itertools.permutations(moves):
            with self.subTest(objects=objects, moves=[(one.old, one.new) for one in order]):
                found, told = moved(old, Config(moves=order, **parts))
                self.assertEqual(found, new)
                self.assertEqual(told, tuple(notes))
                self.assertEqual(old, before)


class Single(Case):
    def test_nothing_to_do(self):
        self.moves({}, {}, ())
        self.moves({at("a"): 1}, {at("a"): 1}, ())
        self.moves({at("a"): 1}, {at("a"): 1}, (), move("b", "c"))
        self.assertEqual(moved(empty(), Config()), (empty(), ()))

    def test_what_is_returned(self):
        state = State({at("a"): thing(1)}, {}, {"o": {"p": 1}}, 3)
        found, notes = moved(state, Config(moves=(move("a", "b"),)))
        self.assertIsInstance(found, State)
        self.assertIsInstance(notes, tuple)
        self.assertIsInstance(notes[0], tuple)
        self.assertIs(notes[0][2], True)
        found.outputs["o"]["p"] = 2
        self.assertEqual(state, State({at("a"): thing(1)}, {}, {"o": {"p": 1}}, 3))

    def test_an_object_goes_as_it_is(self):
        one = thing(1, (block("x"),), tainted=True, first=True, attributes={"a": ({"b": 1},)})
        found, _ = moved(State({at("a"): one}, {}, {}, 0), Config(moves=(move("a", "b"),)))
        self.assertEqual(found.objects, {at("b"): one})

    def test_of_a_block(self):
        self.moves({at("a"): 1}, {at("b"): 1}, [(at("a"), at("b"), True)], move("a", "b"))
        self.moves({at("a"): 1, at("c"): 2}, {at("b"): 1, at("c"): 2}, [(at("a"), at("b"), True)], move("a", "b"))
        web = ((), "web", "a", None)
        self.moves({web: 1}, {web: 1}, [], move("a", "b"))

    def test_of_a_block_with_several_instances(self):
        keys = (None, 0, 2, 10, "", "10", "2", "x")
        notes = [(at("a", key), at("b", key), True) for key in keys]
        for order in (keys, keys[::-1]):
            objects = {at("a", key): len(str(key)) for key in order}
            self.moves(objects, {at("b", key): len(str(key)) for key in keys}, notes, move("a", "b"))

    def test_an_occupied_place(self):
        self.moves({at("a"): 1, at("b"): 2}, {at("a"): 1, at("b"): 2}, [(at("a"), at("b"), False)], move("a", "b"))
        self.moves(
            {at("a", 0): 1, at("a", 1): 2, at("a", 2): 3, at("b", 1): 4},
            {at("b", 0): 1, at("a", 1): 2, at("b", 2): 3, at("b", 1): 4},
            [(at("a", 0), at("b", 0), True), (at("a", 1), at("b", 1), False), (at("a", 2), at("b", 2), True)],
            move("a", "b"),
        )
        # Only the very address is occupied.
        self.moves({at("a"): 1, at("b", 0): 2}, {at("b"): 1, at("b", 0): 2}, [(at("a"), at("b"), True)], move("a", "b"))

    def test_of_an_instance(self):
        for old, new in itertools.permutations((None, 0, 7, "", "x"), 2):
            self.moves({at("a", old): 1, at("a", 3): 2}, {at("a", new): 1, at("a", 3): 2},
                       [(at("a", old), at("a", new), True)], move(("a", old), ("a", new)))
            self.moves({at("a", old): 1, at("a", new): 2}, {at("b", new): 1, at("a", new): 2},
                       [(at("a", old), at("b", new), True)], move(("a", old), ("b", new)))
            self.moves({at("a", old): 1, at("b", new): 2}, {at("a", old): 1, at("b", new): 2},
                       [(at("a", old), at("b", new), False)], move(("a", old), ("b", new)))
            self.moves({at("a", new): 1}, {at("a", new): 1}, [], move(("a", old), ("b", new)))


class Several(Case):
    def test_a_chain_of_blocks(self):
        moves = [move("a", "b"), move("b", "c"), move("c", "d")]
        ways = [(at(one), at(other)) for one, other in ("ab", "bc", "cd")]
        self.moves({at("a"): 1}, {at("d"): 1}, [(*way, True) for way in ways], *moves)
        self.moves({at("b"): 1}, {at("d"): 1}, [(*way, True) for way in ways[1:]], *moves)
        self.moves({at("a"): 1, at("b"): 2}, {at("a"): 1, at("d"): 2},
                   [(*ways[0], False), (*ways[1], True), (*ways[2], True)], *moves)
        self.moves({at("a"): 1, at("c"): 2}, {at("b"): 1, at("d"): 2},
                   [(*ways[0], True), (*ways[1], False), (*ways[2], True)], *moves)
        self.moves({at(name): ord(name) for name in "abcd"}, {at(name): ord(name) for name in "abcd"},
                   [(*way, False) for way in ways], *moves)

    def test_a_chain_against_the_order_of_names(self):
        moves = [move("c", "b"), move("b", "a"), move("d", "c")]
        ways = [(at(one), at(other)) for one, other in ("dc", "cb", "ba")]
        self.moves({at("d"): 1}, {at("a"): 1}, [(*way, True) for way in ways], *moves)
        self.moves({at("d"): 1, at("b"): 2}, {at("c"): 1, at("a"): 2},
                   [(*ways[0], True), (*ways[1], False), (*ways[2], True)], *moves)

    def test_a_chain_of_instances(self):
        moves = [move(("a", 0), ("a", 1)), move(("a", 1), ("a", 2)), move(("a", 2), ("b", "x"))]
        ways = [(at("a", 0), at("a", 1)), (at("a", 1), at("a", 2)), (at("a", 2), at("b", "x"))]
        self.moves({at("a", 0): 1}, {at("b", "x"): 1}, [(*way, True) for way in ways], *moves)
        self.moves({at("a", 0): 1, at("a", 1): 2}, {at("a", 0): 1, at("b", "x"): 2},
                   [(*ways[0], False), (*ways[1], True), (*ways[2], True)], *moves)

    def test_the_least_old_address_first(self):
        moves = [
            move("d", "x"), move("a", "z"), move(("b", "k"), ("w", 0)), move(("b", 2), ("w", 1)),
            move(("b", 10), ("w", 2)), move(("b", None), ("w", 3)),
        ]
        ways = [(at("a"), at("z")), (at("b"), at("w", 3)), (at("b", 2), at("w", 1)), (at("b", 10), at("w", 2)),
                (at("b", "k"), at("w", 0)), (at("d"), at("x"))]
        objects = {old: number for number, (old, _) in enumerate(ways)}
        expected = {new: number for number, (_, new) in enumerate(ways)}
        self.moves(objects, expected, [(*way, True) for way in ways], *moves)

    def test_two_chains_turn_by_turn(self):
        # c waits for a, so that b comes ahead of it; x could go first of all but for its address.
        moves = [move("c", "d"), move("a", "c"), move("b", "e"), move("x", "y")]
        self.moves({at("a"): 1, at("b"): 2, at("x"): 3}, {at("d"): 1, at("e"): 2, at("y"): 3}, [
            (at("a"), at("c"), True), (at("b"), at("e"), True), (at("c"), at("d"), True), (at("x"), at("y"), True),
        ], *moves)


class Deposed(Case):
    def test_they_go_with_the_object(self):
        self.moves({at("a"): 1}, {at("b"): 1}, [(at("a"), at("b"), True)], move("a", "b"),
                   deposed={(at("a"), 1): 2, (at("a"), 3): 3, (at("c"), 1): 4},
                   then={(at("b"), 1): 2, (at("b"), 2): 3, (at("c"), 1): 4})

    def test_they_are_numbered_on(self):
        self.moves({at("a"): 1}, {at("b"): 1}, [(at("a"), at("b"), True)], move("a", "b"),
                   deposed={(at("a"), 10): 2, (at("a"), 2): 3, (at("b"), 2): 4, (at("b"), 5): 5, (at("a"), 1): 6},
                   then={(at("b"), 2): 4, (at("b"), 5): 5, (at("b"), 6): 6, (at("b"), 7): 3, (at("b"), 8): 2})

    def test_they_stay_where_the_object_stays(self):
        self.moves({at("a"): 1, at("b"): 2}, {at("a"): 1, at("b"): 2}, [(at("a"), at("b"), False)], move("a", "b"),
                   deposed={(at("a"), 1): 3, (at("b"), 1): 4}, then={(at("a"), 1): 3, (at("b"), 1): 4})

    def test_alone(self):
        for moves in ([move("a", "b")], [move(("a", None), ("b", None))]):
            self.moves({}, {}, [], *moves, deposed={(at("a"), 2): 1, (at("b"), 2): 2},
                       then={(at("b"), 2): 2, (at("b"), 3): 1})
            # An object stands at the new address.
            self.moves({at("b"): 5}, {at("b"): 5}, [], *moves, deposed={(at("a"), 2): 1, (at("b"), 1): 2},
                       then={(at("a"), 2): 1, (at("b"), 1): 2})

    def test_of_several_instances(self):
        self.moves(
            {at("a", 1): 1, at("b", "x"): 2}, {at("b", 1): 1, at("b", "x"): 2}, [(at("a", 1), at("b", 1), True)],
            move("a", "b"), deposed={(at("a", 0), 1): 3, (at("a", 1), 1): 4, (at("a", "x"), 1): 5, (at("b", 0), 1): 6},
            then={(at("b", 0), 2): 3, (at("b", 1), 1): 4, (at("a", "x"), 1): 5, (at("b", 0), 1): 6},
        )

    def test_along_a_chain(self):
        self.moves({at("b"): 1}, {at("c"): 1}, [(at("b"), at("c"), True)], move("a", "b"), move("b", "c"),
                   deposed={(at("a"), 1): 2, (at("b"), 1): 3}, then={(at("a"), 1): 2, (at("c"), 1): 3})
        self.moves({}, {}, [], move("a", "b"), move("b", "c"), deposed={(at("a"), 1): 2, (at("b"), 4): 3},
                   then={(at("c"), 1): 3, (at("c"), 2): 2})


class Counts(Case):
    COUNT, KEYS = ("count", ONE), ("keys", ("say", ()))

    def parts(self, **many):
        return {"blocks": tuple(Block("net", name, {}, many=how) for name, how in many.items())}

    def test_a_count_that_came(self):
        way, parts = (at("a"), at("a", 0)), self.parts(a=self.COUNT)
        self.moves({at("a"): 1}, {at("a", 0): 1}, [(*way, True)], **parts)
        self.moves({at("a"): 1, at("a", 1): 2}, {at("a", 0): 1, at("a", 1): 2}, [(*way, True)], **parts)
        self.moves({at("a"): 1, at("a", 0): 2}, {at("a"): 1, at("a", 0): 2}, [(*way, False)], **parts)
        self.moves({at("a", 0): 1}, {at("a", 0): 1}, [], **parts)

    def test_a_count_that_went(self):
        way = (at("a", 0), at("a"))
        self.moves({at("a", 0): 1, at("a", 1): 2}, {at("a"): 1, at("a", 1): 2}, [(*way, True)], **self.parts(a=None))
        self.moves({at("a", 0): 1, at("a"): 2}, {at("a", 0): 1, at("a"): 2}, [(*way, False)], **self.parts(a=None))
        self.moves({at("a"): 1, at("a", "0"): 2, at("a", 1): 3}, {at("a"): 1, at("a", "0"): 2, at("a", 1): 3}, [],
                   **self.parts(a=None))

    def test_nothing_of_blocks_with_keys_and_of_what_is_not_written(self):
        for objects in ({at("a"): 1}, {at("a", 0): 1}):
            self.moves(objects, objects, [], **self.parts(a=self.KEYS))
            self.moves(objects, objects, [], **self.parts(b=self.COUNT, c=None))

    def test_deposed_ones(self):
        self.moves({at("a"): 1}, {at("a", 0): 1}, [(at("a"), at("a", 0), True)], **self.parts(a=self.COUNT),
                   deposed={(at("a"), 1): 2, (at("a", 0), 3): 3}, then={(at("a", 0), 3): 3, (at("a", 0), 4): 2})
        self.moves({}, {}, [], **self.parts(a=None), deposed={(at("a", 0), 5): 2}, then={(at("a"), 1): 2})
        self.moves({at("a"): 1}, {at("a"): 1}, [], **self.parts(a=None), deposed={(at("a", 0), 5): 2},
                   then={(at("a", 0), 5): 2})
        self.moves({at("a"): 1, at("a", 0): 2}, {at("a"): 1, at("a", 0): 2}, [(at("a"), at("a", 0), False)],
                   **self.parts(a=self.COUNT), deposed={(at("a"), 1): 3}, then={(at("a"), 1): 3})

    def test_behind_all_moves_in_order(self):
        inner = Config(**self.parts(a=self.COUNT))
        self.moves(
            {at("c"): 1, at("a", 0): 2, at("y"): 3, at("a", path=("d",)): 4},
            {at("c", 0): 1, at("a"): 2, at("z"): 3, at("a", 0, ("d",)): 4},
            [(at("y"), at("z"), True), (at("a", 0), at("a"), True), (at("c"), at("c", 0), True),
             (at("a", path=("d",)), at("a", 0, ("d",)), True)],
            move("y", "z"), **self.parts(c=self.COUNT, b=self.COUNT, a=None), calls=(Call("d", inner, {}),),
        )

    def test_not_of_blocks_with_moves(self):
        way = (at("a"), at("a", 0))
        for moves in (
            [move("x", "a")], [move(("x", 0), ("a", 5))], [move(("a", None), ("x", 0))], [move(("a", None), ("a", 5))],
            [move(("a", "k"), ("x", "k"))], [move(("y", 0), ("a", "k"))],
        ):
            went = [(at("a"), at(one.new[1], one.new[2]), True) for one in moves if one.old == ("net", "a", None)]
            objects = {went[0][1] if went else at("a"): 1}
            self.moves({at("a"): 1}, objects, went, *moves, **self.parts(a=self.COUNT))
        for moves in ([move("x", "y")], [move(("b", None), ("b", 0))], [Move(("web", "x"), ("web", "a"))]):
            self.moves({at("a"): 1}, {at("a", 0): 1}, [(*way, True)], *moves, **self.parts(a=self.COUNT))
        # What comes to the block by a move stays where it came to.
        self.moves({at("x"): 1}, {at("a"): 1}, [(at("x"), at("a"), True)], move("x", "a"), **self.parts(a=self.COUNT))

    def test_moves_in_another_call_do_not_count(self):
        inner = Config(moves=(move("x", "a"),), **self.parts(a=self.COUNT))
        path = ("c",)
        self.moves(
            {at("a"): 1, at("a", path=path): 2}, {at("a", 0): 1, at("a", path=path): 2}, [(at("a"), at("a", 0), True)],
            **self.parts(a=self.COUNT), calls=(Call("c", inner, {}),),
        )


class Calls(Case):
    def test_each_call_has_its_own(self):
        inner = Config(moves=(move("a", "b"),))
        middle = Config(moves=(move("c", "d"),), calls=(Call("n", inner, {}),))
        calls = (Call("m", middle, {}), Call("n", inner, {}))
        paths = ((), ("m",), ("n",), ("m", "n"), ("o",))
        objects = {at(name, path=path): len(path) for name in "ac" for path in paths}
        ways = {
            at("a", path=("n",)): at("b", path=("n",)), at("c", path=("m",)): at("d", path=("m",)),
            at("a", path=("m", "n")): at("b", path=("m", "n")), at("c"): at("e"),
        }
        order = (at("c"), at("c", path=("m",)), at("a", path=("m", "n")), at("a", path=("n",)))
        self.moves(
            objects, {ways.get(one, one): number for one, number in objects.items()},
            [(old, ways[old], True) for old in order], move("c", "e"), calls=calls,
        )

    def test_an_order_over_all_calls(self):
        # What must wait in one call lets what stands in others go ahead.
        inner = Config(moves=(move("b", "c"), move("z", "b")))
        path = ("m",)
        self.moves(
            {at("z", path=path): 1, at("y", path=("n",)): 2}, {at("c", path=path): 1, at("x", path=("n",)): 2},
            [(at("z", path=path), at("b", path=path), True), (at("b", path=path), at("c", path=path), True),
             (at("y", path=("n",)), at("x", path=("n",)), True)],
            calls=(Call("n", Config(moves=(move("y", "x"),)), {}), Call("m", inner, {})),
        )


class Needs(unittest.TestCase):
    def needs(self, before, behind, *moves, objects=(), **parts):
        """Whether the kept needs, of an object and of a deposed one, become these."""
        stand = {at(name): thing(number) for number, name in enumerate(objects)}
        other = ((), "web", "other", None)
        for order in itertools.permutations(moves):
            old = State({**stand, other: thing(90, before)}, {(other, 1): thing(91, before)}, {}, 0)
            found, _ = moved(old, Config(moves=order, **parts))
            self.assertEqual(found.objects[other], thing(90, behind))
            self.assertEqual(found.deposed[(other, 1)], thing(91, behind))
            self.assertEqual(old.objects[other], thing(90, before))

    def test_a_new_address_for_an_old_one(self):
        self.needs((block("a"),), (block("b"),), move("a", "b"))
        self.needs((block("a"),), (block("b"),), move("a", "b"), objects="a")
        # Even if nothing went.
        self.needs((block("a"),), (block("b"),), move("a", "b"), objects="ab")
        self.needs((block("c"), ((), "web", "a")), (block("c"), ((), "web", "a")), move("a", "b"), objects="a")

    def test_sorted_and_each_once(self):
        self.needs((block("a"), block("c"), block("d")), (block("c"), block("d"), block("x")), move("a", "x"))
        self.needs((block("a"), block("b"), block("c")), (block("b"), block("c")), move("a", "b"))
        web = ((), "web", "a")
        self.needs((block("c"), block("d"), web), (block("a"), block("d"), web), move("c", "a"))

    def test_along_a_chain(self):
        for objects in ("", "a", "b", "ab"):
            self.needs((block("a"),), (block("c"),), move("a", "b"), move("b", "c"), objects=objects)
            self.needs((block("a"), block("b")), (block("c"),), move("a", "b"), move("b", "c"), objects=objects)
            self.needs((block("c"),), (block("a"),), move("c", "b"), move("b", "a"), objects=objects)

    def test_not_by_a_move_of_an_instance_or_a_count(self):
        self.needs((block("a"),), (block("a"),), move(("a", None), ("b", None)), objects="a")
        count = {"blocks": (Block("net", "a", {}, many=("count", ONE)),)}
        self.needs((block("a"),), (block("a"),), objects="a", **count)

    def test_in_calls(self):
        inner = Config(moves=(move("a", "b"),))
        before = (block("a"), block("a", ("c",)), block("a", ("d",)))
        behind = (block("a"), block("b", ("c",)), block("a", ("d",)))
        self.needs(before, behind, calls=(Call("c", inner, {}),))

    def test_of_what_goes_itself(self):
        one = thing(1, (block("a"), block("x")))
        old = State({at("a"): one, at("b", 0): one}, {(at("a"), 2): one}, {}, 0)
        found, _ = moved(old, Config(moves=(move("a", "z"),)))
        new = thing(1, (block("x"), block("z")))
        self.assertEqual(found, State({at("z"): new, at("b", 0): new}, {(at("z"), 1): new}, {}, 0))


class Example(unittest.TestCase):
    def test_e10(self):
        other = Block("net", "core", {"range": ("say", "ten")})
        old, new = ((), "net", "main", None), ((), "net", "core", None)
        shop = ((), "web", "shop", None)
        state = State({old: thing(1), shop: thing(2, (old[:3],))}, {}, {}, 1)
        found, notes = moved(state, Config(blocks=(other,), moves=(Move(("net", "main"), ("net", "core")),)))
        self.assertEqual(notes, ((old, new, True),))
        self.assertEqual(found, State({new: thing(1), shop: thing(2, (new[:3],))}, {}, {}, 1))


class AsWritten(unittest.TestCase):
    """Random moves, against the words of the document gone through one by one."""

    def rank(self, address):
        key = address[3] if len(address) == 4 else -2
        return (*address[:3], -1 if key is None else -2 if key == -2 else key)

    def expected(self, objects, deposed, moves, counted, single):
        objects, deposed, notes, left = dict(objects), dict(deposed), [], list(moves)

        def go(old, new):
            stands, free = old in objects, new not in objects
            if stands:
                notes.append((old, new, free))
            if stands and free:
                objects[new] = objects.pop(old)
            if free:
                for number in sorted(number for one, number in deposed if one == old):
                    behind = max([other for one, other in deposed if one == new] + [0])
                    deposed[(new, behind + 1)] = deposed.pop((old, number))

        while left:
            ready = [one for one in left if one[0] not in [new for _, new in left]]
            old, new = min(ready, key=lambda pair: self.rank(pair[0]))
            left.remove((old, new))
            if len(old) == 4:
                go(old, new)
                continue
            for one in sorted({*objects, *[one for one, _ in deposed]}, key=self.rank):
                if one[:3] == old:
                    go(one, (*new, one[3]))
        touched = [one[:3] for pair in moves for one in pair]
        for name in sorted(counted + single):
            if block(name) not in touched:
                pair = (at(name), at(name, 0))
                go(*pair if name in counted else pair[::-1])
        return objects, deposed, tuple(notes)

    def pairs(self, chance):
        """Moves that a configuration can have."""
        places = [(name,) for name in chance.sample("abcd", 3)]
        places += [(name, key) for name in "abcd" if (name,) not in places for key in (None, 0, 1)]
        chance.shuffle(places)
        cut = chance.randint(1, len(places) - 1)
        chains = [places[:cut], places[cut:]]
        pairs = [pair for chain in chains for pair in zip(chain, chain[1:]) if len(pair[0]) == len(pair[1])]
        chance.shuffle(pairs)
        return pairs

    def test_random_ones(self):
        chance = random.Random(7)
        places = [at(name, key) for name in "abcd" for key in (None, 0, 1)]
        noted = 0
        for _ in range(3000):
            pairs = self.pairs(chance)
            objects = {one: chance.randint(1, 99) for one in places if chance.random() < 0.4}
            waiting = [(one, number) for one in places for number in (1, 2) if chance.random() < 0.2]
            deposed = {one: chance.randint(1, 99) for one in waiting}
            written = [name for name in "abcd" if not any(old[0] == name for old, _ in pairs) and chance.random() < 0.7]
            counted = [name for name in written if chance.random() < 0.5]
            single = [name for name in written if name not in counted]
            blocks = [Block("net", name, {}, many=("count", ONE) if name in counted else None) for name in written]
            config = Config(moves=tuple(move(old, new) for old, new in pairs), blocks=tuple(blocks))
            state = State({one: thing(number) for one, number in objects.items()},
                          {one: thing(number) for one, number in deposed.items()}, {}, 0)
            long = [(((), "net", *old), ((), "net", *new)) for old, new in pairs]
            objects, deposed, notes = self.expected(objects, deposed, long, counted, single)
            found, told = moved(state, config)
            self.assertEqual(told, notes)
            self.assertEqual(found, State({one: thing(number) for one, number in objects.items()},
                                          {one: thing(number) for one, number in deposed.items()}, {}, 0))
            noted += len(notes)
        self.assertGreater(noted, 3000)


if __name__ == "__main__":
    unittest.main()
