"""The examples e01 to e12 of the document."""

import unittest

from planfirst.applies import apply
from planfirst.configs import Block, Config, Move
from planfirst.errors import Unsure
from planfirst.expressions import reckon
from planfirst.impacts import impact
from planfirst.kinds import Kind
from planfirst.orders import rounds
from planfirst.plans import is_empty, plan
from planfirst.settling import settles
from planfirst.staging import stages
from planfirst.states import empty
from planfirst.values import Unknown, is_known
from planfirst.worlds import World

N, S = ((), "net", "main", None), ((), "web", "shop", None)
NET = Kind("net", (("range", "wanted", True, None),), (("id", ("id",)),))
WEB = Kind(
    "web", (("net", "wanted", True, None), ("title", "open", False, None)), (("id", ("id",)), ("stamp", ("mark",))),
)
KINDS = {"net": NET, "web": WEB}
TWO = ("if", ("same", ("of", "net", "main", "id"), ("say", None)), ("say", 0), ("say", 2))
COPY = Block("web", "copy", {"net": ("of", "net", "main", "id")}, many=("count", TWO))


class Examples(unittest.TestCase):
    def setUp(self):
        self.a = Block("net", "main", {"range": ("say", "ten")})
        self.b = Block("web", "shop", {"net": ("of", "net", "main", "id"), "title": ("say", "hello")})
        self.w = World(KINDS)
        self.p = plan(Config(blocks=(self.a, self.b)), {}, KINDS, empty(), self.w)
        self.r = apply(self.p, empty(), self.w)

    def plan(self, *blocks, **more):
        return plan(Config(blocks=blocks, **more), {}, KINDS, self.r.state, self.w)

    def test_e01(self):
        p = self.p
        self.assertEqual([p.deeds[N], p.deeds[S], p.planned[N]["range"]], ["make", "make", "ten"])

    def test_e02(self):
        planned = self.p.planned[S]
        self.assertEqual([is_known(planned), is_known(planned["title"])], [False, True])

    def test_e03(self):
        thing = self.r.state.objects[S]
        self.assertEqual([self.r.ends[("make", N)], self.r.state.serial, thing.attributes["net"], thing.needs],
                         ["done", 1, ("#", "net", 1), (((), "net", "main"),)])

    def test_e04(self):
        self.assertIs(is_empty(self.plan(self.a, self.b)), True)

    def test_e05(self):
        q = self.plan(Block("net", "main", {"range": ("say", "twenty")}), self.b)
        self.assertEqual(q.reasons[S], (("forced", "net"),))
        self.assertEqual(rounds(q), ((("destroy", S),), (("destroy", N),), (("make", N),), (("make", S),)))

    def test_e06(self):
        q = self.plan(Block("net", "main", {"range": ("say", "twenty")}, first=True), self.b)
        self.assertEqual(rounds(q), ((("make", N), ("destroy", S)), (("make", S),), (("destroy", N),)))

    def test_e07(self):
        doc = Kind("doc", (("x", "open", False, {"A": "a"}),), (("id", ("id",)),))
        configs = [Config(blocks=(Block("doc", "one", {"x": ("say", text)}),)) for text in "Aa"]
        told = [settles(c, {}, {"doc": doc}, empty(), World({"doc": doc})) for c in configs]
        self.assertEqual(told, [("ring", 1, 1), ("settled", 1)])

    def test_e08(self):
        title = ("if", ("same", ("param", "size"), ("say", "big")), ("say", "BIG"), ("say", "hello"))
        b = Block("web", "shop", {"net": ("of", "net", "main", "id"), "title": title})
        config = Config(params=("size",), blocks=(self.a, b))
        self.assertEqual(impact(config, {}, KINDS, self.r.state, self.w, "size"),
                         ((("big",), ((S, "change"),)), (None, ())))

    def test_e09(self):
        found = stages(Config(blocks=(self.a, COPY)), {}, KINDS, empty(), World(KINDS))
        self.assertEqual(found, ((((), "net", "main"),), None))

    def test_e10(self):
        other = Block("net", "core", {"range": ("say", "ten")})
        b = Block("web", "shop", {"net": ("of", "net", "core", "id"), "title": ("say", "hello")})
        q = self.plan(other, b, moves=(Move(("net", "main"), ("net", "core")),))
        self.assertEqual([q.deeds, q.notes], [{}, ((((), "net", "main", None), ((), "net", "core", None), True),)])

    def test_e11(self):
        with self.assertRaises(Unsure) as caught:
            plan(Config(blocks=(self.a, COPY)), {}, KINDS, empty(), World(KINDS))
        self.assertEqual(caught.exception.address, ((), "web", "copy"))

    def test_e12(self):
        e = ("size", ("tuple", (("param", "p"), ("say", 1))))
        self.assertEqual(reckon(e, {("param", "p"): Unknown()}), 2)
        self.assertEqual(reckon(("join", (("param", "p"), ("say", "x"))), {("param", "p"): Unknown()}), Unknown())


if __name__ == "__main__":
    unittest.main()
