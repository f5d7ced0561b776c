"""Configurations, states and worlds by chance, each the same for the same seed."""

import random

from planfirst.configs import Block, Call, Config, Reading
from planfirst.states import State
from stand import Stand, say


class Chance:
    def __init__(self, seed):
        self.random = random.Random(seed)

    def some(self, things, most=None):
        things = list(things)
        number = self.random.randint(0, min(len(things), len(things) if most is None else most))
        return self.random.sample(things, number)

    def often(self, share):
        return self.random.random() < share


class Nets(Chance):
    """Blocks of the kind net alone, for orders: who refers to whom is by chance."""

    # How often a block is replaced along with another one, and refers to others.
    replacing = 0.2
    referring = 0.5

    def config(self, names, version):
        found = []
        for place, name in enumerate(names):
            others = self.some(names[:place], 3)
            text = say(self.random.choice((1, version)))
            f = ("tuple", tuple(self.value(other, found) for other in others)) if self.often(self.referring) else text
            a = ("tuple", tuple(self.value(other, found) for other in others))
            by = tuple(("net", one) for one in self.some(names[:place], 1)) if self.often(self.replacing) else ()
            many = self.random.choice((None, None, None, ("count", say(self.random.randint(0, 2)))))
            after = tuple(("net", one) for one in self.some(names[:place], 1))
            found.append(Block("net", name, {"f": f, "a": a}, many=many, first=self.often(0.3), replaced_by=by,
                               after=after))
        return Config(blocks=tuple(found))

    def value(self, name, found):
        many = [block.many for block in found if block.name == name][0]
        return ("of", "net", name, "id") if many is None else ("each", "net", name, "id")

    def plan(self, most=4):
        """A plan that replaces, changes, makes and destroys, perhaps with what is deposed and needs of other times."""
        names = ["a", "b", "c", "d", "e", "g"][:self.random.randint(1, most)]
        stand = Stand(self.config(names, 1))
        if self.often(0.6):
            self.doctor(stand, names)
        names = self.some(names) + (["n"] if self.often(0.2) else [])
        self.random.shuffle(names)
        config = self.config(names, 2)
        replace = tuple(self.some(stand.state.objects, 2))
        return stand, stand.plan(config, replace=replace)

    def doctor(self, stand, names):
        """Give objects other needs, be first or tainted, and depose some."""
        for address in list(stand.state.objects):
            if self.often(0.4):
                needs = tuple(sorted(((), "net", name) for name in self.some([*names, "z"], 3)))
                stand.put(address, needs=needs, first=self.often(0.5), tainted=self.often(0.2))
        objects = dict(stand.state.objects)
        deposed = {}
        for address in list(objects):
            if self.often(0.15):
                deposed[(address, self.random.randint(1, 2))] = objects.pop(address)
        stand.state = State(objects, deposed, stand.state.outputs, stand.state.serial)


TEXTS = ("", "a", "b", "ab", "ba", "aa", "aab", "abab", "1", "a1")


class Texts(Chance):
    """Configurations whose values depend on a text p, in each way that there is."""

    def text(self, depth, others=()):
        """An expression that mostly comes to a text."""
        way = self.random.randrange(8 if depth else 3)
        if way == 0:
            return say(self.random.choice(TEXTS))
        if way in (1, 2):
            return ("param", "p")
        if way == 3:
            return ("join", tuple(self.text(depth - 1, others) for _ in range(self.random.randint(1, 3))))
        if way == 4:
            return ("if", self.truth(depth - 1, others), self.text(depth - 1, others), self.text(depth - 1, others))
        if way == 5:
            return ("pick", self.table(depth - 1, others), self.text(depth - 1, others))
        if way == 6 and others:
            return self.random.choice(others)
        if way == 7 and self.often(0.4):
            return self.random.choice((("out", "c", "o"), say(1), say(None), ("size", self.text(depth - 1, others))))
        return ("if", self.truth(depth - 1, others), say(self.random.choice(TEXTS)), say(self.random.choice(TEXTS)))

    def table(self, depth, others):
        keys = self.random.sample(TEXTS, self.random.randint(1, 3))
        return ("map", tuple((key, self.text(depth, others)) for key in keys))

    def truth(self, depth, others):
        if depth <= 0 or self.often(0.5):
            return ("same", self.text(max(depth, 0), others), say(self.random.choice(TEXTS)))
        if self.often(0.3):
            return ("same", ("tuple", (self.text(depth - 1, others), say(1))), say((self.random.choice(TEXTS), 1)))
        if self.often(0.3):
            return ("same", ("map", (("k", self.text(depth - 1, others)),)), say({"k": self.random.choice(TEXTS)}))
        if others and self.often(0.5):
            return ("same", self.random.choice(others), say(self.random.choice(TEXTS)))
        return say(self.often(0.5))

    def config(self):
        """Some blocks, a call, perhaps a reading; ("of", "net", "x", "id") may be unknown."""
        found = []
        others = []
        for name in self.some("xyz") or ["x"]:
            f = self.text(2, others) if self.often(0.6) else say(self.random.choice(TEXTS))
            a = self.text(2, others)
            ahead = ("if", self.truth(1, others), say(True), say(False)) if self.often(0.1) else None
            by = (("net", found[0].name),) if found and self.often(0.2) else ()
            found.append(Block("net", name, {"f": f, "a": a}, ahead=ahead, replaced_by=by))
            others += [("of", "net", name, one) for one in ("f", "a", "id", "round", "mark")]
        many = self.random.choice((None, ("count", ("if", self.truth(1, others), say(1), say(2))),
                                   ("keys", ("tuple", (say("a"), self.text(1, others)))),
                                   ("keys", ("map", (("a", self.text(1, others)), ("b", say(1)))))))
        own = ("own", "value") if many is not None and many[0] == "keys" else self.text(2, others)
        found.append(Block("net", "many", {"a": own}, many=many))
        inner = Config(params=("q",), blocks=(Block("net", "in", {"a": ("param", "q")}),),
                       outputs=(("o", ("param", "q")),))
        calls = (Call("c", inner, {"q": self.text(1) if self.often(0.7) else say("a")}),)
        readings = (Reading("net", "r", {"a": self.text(1, others)}),) if self.often(0.4) else ()
        if readings:
            found.append(Block("net", "seen", {"a": ("of", "net", "r", "size")}))
        outputs = (("o", self.text(2, others)),) if self.often(0.3) else ()
        return Config(params=("p",), blocks=tuple(found), calls=calls, readings=readings, outputs=outputs)


class Things(Chance):
    """Blocks of several kinds, with all that a block can tell, readings and calls."""

    def value(self, others, own=()):
        way = self.random.randrange(7)
        if way == 0 or not others and not own:
            return say(self.random.choice((None, 0, 1, True, "A", "a", "t")))
        if way == 1 and own:
            return self.random.choice(own)
        if way == 2:
            return ("tuple", (self.value(others, own), say(1)))
        if way == 3:
            return ("if", ("same", self.value(others, own), self.value(others, own)), self.value(others, own),
                    self.value(others, own))
        if way == 4:
            return ("map", (("k", self.value(others, own)),))
        return self.random.choice([*others, *own])

    def many(self, others):
        way = self.random.randrange(6)
        if way == 0:
            return ("count", say(self.random.randint(0, 2)))
        if way == 1:
            return ("keys", say(tuple(self.some(("b", "a", "c"), 2))))
        if way == 2:
            return ("keys", ("map", (("k", self.value(others)),)))
        return None

    def block(self, name, found, others):
        kind = self.random.choice(("net", "net", "hold", "read"))
        many = self.many(others)
        own = {None: (), "count": (("own", "index"),), "keys": (("own", "key"), ("own", "value"))}[many and many[0]]
        names = {"net": ("f", "a", "c"), "hold": ("name", "of"), "read": ("x", "y", "c")}[kind]
        attributes = {one: self.value(others, own) for one in self.some(names)}
        by = [(one.kind, one.name) for one in found] + [(one.kind, one.name, "id") for one in found]
        ahead = None
        if self.often(0.15):
            ahead = ("if", ("same", self.value(others, own), say("z")), say(False), say(True))
        return Block(kind, name, attributes, many=many, after=tuple(self.some([one[:2] for one in by], 1)),
                     first=self.often(0.25), ignored=tuple(self.some(names, 1)) if self.often(0.2) else (),
                     replaced_by=tuple(self.some(by, 1)), ahead=ahead)

    def references(self, block):
        made = {"net": ("f", "a", "c", "id", "mark", "round"), "hold": ("name", "of", "id"),
                "read": ("x", "y", "c", "id", "mark")}[block.kind]
        word = "of" if block.many is None else "each"
        return [(word, block.kind, block.name, one) for one in made]

    def some_blocks(self, names, others):
        found = []
        for name in names:
            found.append(self.block(name, found, others))
            others = others + self.references(found[-1])
        return found, others

    def config(self, names="vwxyz"):
        found, others = self.some_blocks(self.some(names), [])
        inner, inside = self.some_blocks(self.some("pq"), [("param", "p")])
        call = Call("c", Config(params=("p",), blocks=tuple(inner), outputs=(("o", self.value(inside)),)),
                    {"p": self.value(others)})
        outputs = (("o", self.value([*others, ("out", "c", "o")])), ("p", say(1)))
        readings = ()
        if self.often(0.3):
            # A name that is written behind all others, so that its question may refer to them all.
            after = tuple(self.some([(one.kind, one.name) for one in found], 1))
            readings = (Reading("hold", "zz", {"of": self.value(others)}, after=after),)
        return Config(blocks=tuple(found), calls=(call,), outputs=outputs, readings=readings)

    def near(self, config):
        """The configuration with some attributes told otherwise."""
        found = [self.block_near(one) for one in config.blocks]
        call = config.calls[0]
        inner = [self.block_near(one) for one in call.config.blocks]
        call = Call("c", Config(params=("p",), blocks=tuple(inner), outputs=call.config.outputs), call.arguments)
        return Config(blocks=tuple(found), calls=(call,), outputs=config.outputs, readings=config.readings)

    def block_near(self, block):
        attributes = dict(block.attributes)
        for name in attributes:
            if self.often(0.3):
                attributes[name] = say(self.random.choice((None, 0, 1, True, "A", "a", "t")))
        return Block(block.kind, block.name, attributes, many=block.many, after=block.after, first=block.first,
                     ignored=block.ignored, replaced_by=block.replaced_by, ahead=block.ahead)
