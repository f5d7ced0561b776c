"""Configurations, states and worlds by chance, each the same for the same seed."""

import random

from planfirst.configs import Block, Call, Config, Reading
from planfirst.states import State
from stand import Stand, say


class Chance:
    def __init__(self, seed):
        self.random = random.Random(seed)

    def some(self, things, most=None):
        things = list(things)
        number = self.random.randint(0, min(len(things), len(things) if most is None else most))
        return self.random.sample(things, number)

    def often(self, share):
        return self.random.random() < share


class Nets(Chance):
    """Blocks of the kind net alone, for orders: who refers to whom is by chance."""

    # How often a block is replaced along with another one, and refers to others.
    replacing = 0.2
    referring = 0.5

    def config(self, names, version):
        found = []
        for place, name in enumerate(names):
            others = self.some(names[:place], 3)
            text = say(self.random.choice((1, version)))
            f = ("tuple", tuple(self.value(other, found) for other in others)) if self.often(self.referring) else text
            a = ("tuple", tuple(self.value(other, found) for other in others))
            by = tuple(("net", one) for one in self.some(names[:place], 1)) if self.often(self.replacing) else ()
            many = self.random.choice((None, None, None, ("count", say(self.random.randint(0, 2)))))
            after = tuple(("net", one) for one in self.some(names[:place], 1))
            found.append(Block("net", name, {"f": f, "a": a}, many=many, first=self.often(0.3), replaced_by=by,
                               after=after))
        return Config(blocks=tuple(found))

    def value(self, name, found):
        many = [block.many for block in found if block.name == name][0]
        return ("of", "net", name, "id") if many is None else ("each", "net", name, "id")

    def plan(self, most=4):
        """A plan that replaces, changes, makes and destroys, perhaps with what is deposed and needs of other times."""
        names = ["a", "b", "c", "d", "e", "g"][:self.random.randint(1, most)]
        stand = Stand(self.config(names, 1))
        if self.often(0.6):
            self.doctor(stand, names)
        names = self.some(names) + (["n"] if self.often(0.2) else [])
        self.random.shuffle(names)
        config = self.config(names, 2)
        replace = tuple(self.some(stand.state.objects, 2))
        return stand, stand.plan(config, replace=replace)

    def doctor(self, stand, names):
        """Give objects other needs, be first or tainted, and depose some."""
        for address in list(stand.state.objects):
            if self.often(0.4):
                needs = tuple(sorted(((), "net", name) for name in self.some([*names, "z"], 3)))
                stand.put(address, needs=needs, first=self.often(0.5), tainted=self.often(0.2))
        objects = dict(stand.state.objects)
        deposed = {}
        for address in list(objects):
            if self.often(0.15):
                deposed[(address, self.random.randint(1, 2))] = objects.pop(address)
        stand.state = State(objects, deposed, stand.state.outputs, stand.state.serial)


TEXTS = ("", "a", "b", "ab", "ba", "aa", "aab", "abab", "1", "a1")


class Texts(Chance):
    """Configurations whose values depend on a text p, in each way that there is."""

    def text(self, depth, others=()):
        """An expression that mostly comes to a text."""
        way = self.random.randrange(8 if depth else 3)
        if way == 0:
            return say(self.random.choice(TEXTS))
        if way in (1, 2):
            return ("param", "p")
        if way == 3:
            return ("join", tuple(self.text(depth - 1, others) for _ in range(self.random.randint(1, 3))))
        if way == 4:
            return ("if", self.truth(depth - 1, others), self.text(depth - 1, others), self.text(depth - 1, others))
        if way == 5:
            return ("pick", self.table(depth - 1, others), self.text(depth - 1, others))
        if way == 6 and others:
            return self.random.choice(others)
        if way == 7 and self.often(0.4):
            return self.random.choice((("out", "c", "o"), say(1), say(None), ("size", self.text(depth - 1, others))))
        return ("if", self.truth(depth - 1, others), say(self.random.choice(TEXTS)), say(self.random.choice(TEXTS)))

    def table(self, depth, others):
        keys = self.random.sample(TEXTS, self.random.randint(1, 3))
        return ("map", tuple((key, self.text(depth, others)) for key in keys))

    def truth(self, depth, others):
        if depth <= 0 or self.often(0.5):
            return ("same", self.text(max(depth, 0), others), say(self.random.choice(TEXTS)))
        if self.often(0.3):
            return ("same", ("tuple", (self.text(depth - 1, others), say(1))), say((self.random.choice(TEXTS), 1)))
        if self.often(0.3):
            return ("same", ("map", (("k", self.text(depth - 1, others)),)), say({"k": self.random.choice(TEXTS)}))
        if others and self.often(0.5):
            return ("same", self.random.choice(others), say(self.random.choice(TEXTS)))
        return say(self.often(0.5))

    def config(self):
        """Some blocks, a call, perhaps a reading; ("of", "net", "x", "id") may be unknown."""
        found = []
        others = []
        for name in self.some("xyz") or ["x"]:
            f = self.text(2, others) if self.often(0.6) else say(self.random.choice(TEXTS))
            a = self.text(2, others)
            ahead = ("if", self.truth(1, others), say(True), say(False)) if self.often(0.1) else None
            by = (("net", found[0].name),) if found and self.often(0.2) else ()
            found.append(Block("net", name, {"f": f, "a": a}, ahead=ahead, replaced_by=by))
            others += [("of", "net", name, one) for one in ("f", "a", "id", "round", "mark")]
        many = self.random.choice((None, ("count", ("if", self.truth(1, others), say(1), say(2))),
                                   ("keys", ("tuple", (say("a"), self.text(1, others)))),
                                   ("keys", ("map", (("a", self.text(1, others)), ("b", say(1)))))))
        own = ("own", "value") if many is not None and many[0] == "keys" else self.text(2, others)
        found.append(Block("net", "many", {"a": own}, many=many))
        inner = Config(params=("q",), blocks=(Block("net", "in", {"a": ("param", "q")}),),
                       outputs=(("o", ("param", "q")),))
        calls = (Call("c", inner, {"q": self.text(1) if self.often(0.7) else say("a")}),)
        readings = (Reading("net", "r", {"a": self.text(1, others)}),) if self.often(0.4) else ()
        if readings:
            found.append(Block("net", "seen", {"a": ("of", "net", "r", "size")}))
        outputs = (("o", self.text(2, others)),) if self.often(0.3) else ()
        return Config(params=("p",), blocks=tuple(found), calls=calls, readings=readings, outputs=outputs)
