"""Configurations, states and worlds by chance, each the same for the same seed."""

import random

from planfirst.configs import Block, Call, Config, Reading
from planfirst.errors import PlanError
from planfirst.states import Object, State
from stand import KINDS, Stand, say


class Chance:
    def __init__(self, seed):
        self.random = random.Random(seed)

    def some(self, things, most=None):
        things = list(things)
        number = self.random.randint(0, min(len(things), len(things) if most is None else most))
        return self.random.sample(things, number)

    def often(self, share):
        return self.random.random() < share


class Nets(Chance):
    """Blocks of the kind net alone, for orders: who refers to whom is by chance."""

    def config(self, names, version, first=0.3, replacing=0.2):
        found = []
        for place, name in enumerate(names):
            others = self.some(names[:place], 3)
            text = say(self.random.choice((1, version)))
            f = ("tuple", tuple(self.value(other, found) for other in others)) if self.often(0.5) else text
            a = ("tuple", tuple(self.value(other, found) for other in others))
            by = tuple(("net", one) for one in self.some(names[:place], 1)) if self.often(replacing) else ()
            many = self.random.choice((None, None, None, ("count", say(self.random.randint(0, 2)))))
            after = tuple(("net", one) for one in self.some(names[:place], 1))
            found.append(Block("net", name, {"f": f, "a": a}, many=many, first=self.often(first), replaced_by=by,
                               after=after))
        return Config(blocks=tuple(found))

    def value(self, name, found):
        many = [block.many for block in found if block.name == name][0]
        return ("of", "net", name, "id") if many is None else ("each", "net", name, "id")

    def plan(self, most=4):
        """A plan that replaces, changes, makes and destroys, perhaps with what is deposed and needs of other times."""
        names = ["a", "b", "c", "d", "e", "g"][:self.random.randint(1, most)]
        stand = Stand(self.config(names, 1))
        if self.often(0.6):
            self.doctor(stand, names)
        names = self.some(names) + (["n"] if self.often(0.2) else [])
        self.random.shuffle(names)
        config = self.config(names, 2)
        replace = tuple(self.some(stand.state.objects, 2))
        return stand, stand.plan(config, replace=replace)

    def doctor(self, stand, names):
        """Give objects other needs, be first or tainted, and depose some."""
        for address in list(stand.state.objects):
            if self.often(0.4):
                needs = tuple(sorted(((), "net", name) for name in self.some([*names, "z"], 3)))
                stand.put(address, needs=needs, first=self.often(0.5), tainted=self.often(0.2))
        objects = dict(stand.state.objects)
        deposed = {}
        for address in list(objects):
            if self.often(0.15):
                deposed[(address, self.random.randint(1, 2))] = objects.pop(address)
        stand.state = State(objects, deposed, stand.state.outputs, stand.state.serial)
