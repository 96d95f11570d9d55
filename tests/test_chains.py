import copy
import itertools
import random
import unittest

from tests.helper import GREAT, HUGE, Shapes, all_of
from whence.chains import chain_cut, layers_of
from whence.errors import NoFit, NoName, NoTable, Twice
from whence.stores import Store

# Each table's second column is the first one of the next.
HEADS = {"A": ("p", "q"), "B": ("q", "r"), "C": ("r", "s"), "Three": ("r", "s", "t"), "One": ("q",), "None": (),
         "Back": ("q", "p"), "Same": ("r", "r2"), "Loop": ("s", "p")}
ROWS = [("A", "a1", (1, 2)), ("A", "a3", (1, "2")), ("A", "a2", (5, 2)), ("B", "b1", (2, 7)), ("B", "b2", ("2", 7)),
        ("C", "c1", (7, 0)), ("C", "c2", (7, 0)), ("Loop", "l1", (0, 0)), ("Back", "k1", (0, 0)), ("None", "n1", ())]
PRICES = {"a1": 3, "a2": 5, "a3": 0, "b1": GREAT, "b2": 4, "c1": 1, "c2": 2}


def sample():
    store = Store()
    for name in HEADS:
        store.make(name, HEADS[name])
    for row in ROWS:
        store.put(*row)
    return store


def ways_through(layers):
    """All of them, each as a tuple of names."""
    told = [((name,), right) for name, price, left, right in layers[0]]
    for layer in layers[1:]:
        told = [(way + (name,), right) for way, value in told for name, price, left, right in layer if left == value]
    return [way for way, value in told]


def least_price(layers):
    """By trying all sets of names."""
    prices = {link[0]: link[1] for layer in layers for link in layer}
    ways = ways_through(layers)
    told = [sum([prices[name] for name in some]) for many in range(len(prices) + 1)
            for some in itertools.combinations(prices, many) if all([set(way) & set(some) for way in ways])]
    return min(told)


class ChainCut(unittest.TestCase, Shapes):
    def told(self, layers):
        """What is told holds all that point 50 asks of it; the price."""
        before = copy.deepcopy(layers)
        told = chain_cut(layers)
        self.same(layers, before)
        self.assertEqual([part.__class__ for part in (told,) + told], [tuple, int, tuple, list])
        price, names, packing = told
        prices = {link[0]: link[1] for layer in layers for link in layer}
        ways = ways_through(layers)
        self.assertEqual(list(names), sorted(set(names)))
        self.assertEqual(sum([prices[name] for name in names]), price)
        for way in ways:
            self.assertTrue(set(way) & set(names))
        self.assertEqual(sum([many for many, way in packing]), price)
        self.assertEqual(len({way for many, way in packing}), len(packing))
        for many, way in packing:
            self.assertIs(many.__class__, int)
            self.assertGreaterEqual(many, 1)
            self.assertIs(way.__class__, tuple)
            self.assertIn(way, ways)
        for name in prices:
            self.assertLessEqual(sum([many for many, way in packing if name in way]), prices[name])
        return price

    def test_one_layer(self):
        self.same(self.told([[("a", 3, 1, 2)]]), 3)
        self.same(self.told([[("a", 3, 1, 2), ("b", 4, 1, 2), ("c", 0, 5, 5), ("d", 1, 2, 1)]]), 8)
        told = chain_cut([[("b", 3, 1, 2), ("a", 0, 1, 2)]])
        self.same(told, (3, ("a", "b"), [(3, ("b",))]))

    def test_several_layers(self):
        self.same(self.told([[("a", 3, 1, 2)], [("b", 2, 2, 3)]]), 2)
        self.same(self.told([[("a", 3, 1, 2), ("b", 3, 1, 3)], [("c", 2, 2, 0), ("d", 5, 3, 0)]]), 5)
        self.same(self.told([[("a", 9, 1, 2)], [("b", 2, 2, 3), ("c", 3, 2, 3)], [("d", 9, 3, 1)]]), 5)
        self.same(self.told([[("a", 1, 1, 2), ("b", 1, 2, 2)], [("c", 5, 2, 2)], [("d", 1, 2, 1), ("e", 2, 2, 1)]]), 2)

    def test_a_name_struck_counts_once(self):
        # The middle one stands in four ways through.
        layers = [[("a", 4, 1, 0), ("b", 4, 2, 0)], [("m", 7, 0, 0)], [("c", 4, 0, 1), ("d", 4, 0, 2)]]
        self.same(chain_cut(layers)[:2], (7, ("m",)))
        self.told(layers)

    def test_where_ways_must_give_way(self):
        # A way taken first over the middle must be taken back.
        layers = [[("a", 1, 0, 1), ("b", 1, 0, 2)], [("c", 1, 1, 1), ("d", 1, 1, 2), ("e", 1, 2, 2)],
                  [("f", 1, 1, 0), ("g", 1, 2, 0)]]
        self.same(self.told(layers), 2)
        for order in itertools.permutations(layers[1]):
            for first in itertools.permutations(layers[0]):
                self.same(self.told([list(first), list(order), layers[2]]), 2)

    def test_no_way_through(self):
        for layers in ([[]], [[], []], [[("a", 3, 1, 2)], []], [[], [("a", 3, 1, 2)]],
                       [[("a", 3, 1, 2)], [], [("b", 3, 2, 1)]], [[("a", 3, 1, 2)], [("b", 3, 1, 2)]],
                       [[("a", 3, 1, 2)], [("b", 3, "2", 2)]], [[("a", 3, 1, 2)], [("b", 3, 2, 3)], [("c", 1, 2, 3)]]):
            self.same(self.told(layers), 0)
            self.same(chain_cut(layers)[2], [])

    def test_prices_of_nought(self):
        self.same(self.told([[("a", 0, 1, 2)]]), 0)
        self.same(self.told([[("a", 0, 1, 2)], [("b", 5, 2, 3)]]), 0)
        self.same(self.told([[("a", 5, 1, 2)], [("b", 0, 2, 3), ("c", 0, 2, 4)]]), 0)
        self.same(self.told([[("a", 5, 1, 2), ("b", 0, 1, 2)], [("c", 0, 2, 3), ("d", 1, 2, 3)]]), 1)
        self.same(self.told([[("a", 0, 1, 2)], [("b", 0, 2, 3)], [("c", 0, 3, 4)]]), 0)

    def test_great_prices(self):
        for great in (GREAT, 10 ** 60, HUGE):
            layers = [[("a", great, 0, 1), ("b", great + 1, 0, 2)],
                      [("c", 1, 1, 2), ("d", great, 1, 1), ("e", great, 2, 2)],
                      [("f", great, 1, 0), ("g", great + 7, 2, 0)]]
            self.assertTrue(self.told(layers) == 2 * great)
            self.assertTrue(self.told([[("a", great, 1, 2)]]) == great)

    def test_links_alike_and_values_of_two_kinds(self):
        self.same(self.told([[("a", 1, 1, 2), ("b", 2, 1, 2)], [("c", 2, 2, 3), ("d", 4, "2", 3)]]), 2)
        self.same(self.told([[("a", 1, 1, 2), ("b", 2, 1, "2")], [("c", 2, 2, 3), ("d", 4, "2", 3)]]), 3)
        # A value in one layer is not the same place as in another one.
        self.same(self.told([[("a", 5, 1, 1)], [("b", 3, 1, 1)], [("c", 4, 1, 1)]]), 3)

    def test_against_all_sets_of_names(self):
        rng = random.Random(50)
        for k in range(250):
            layers, many = [], 0
            for j in range(1 + k % 4):
                layer = []
                for i in range(rng.randrange(5) if k % 4 else 1 + rng.randrange(6)):
                    if many < 10:
                        layer.append((f"n{many}", rng.choice((0, 1, 1, 2, 3, 5, 8, GREAT)), rng.choice((1, 2, "2")),
                                      rng.choice((1, 2, "2"))))
                        many += 1
                layers.append(layer)
            self.assertEqual(self.told(layers), least_price(layers), layers)

    def test_ten_layers_and_sixty_links(self):
        rng = random.Random(51)
        for k in range(20):
            values = [0, 1] if k % 2 else [0, 1, 2]
            layers = [[(f"n{j}_{i}", rng.randrange(1, 10 ** 60), rng.choice(values), rng.choice(values))
                       for i in range(6)] for j in range(10)]
            price, names, packing = chain_cut(layers)
            prices = {link[0]: link[1] for layer in layers for link in layer}
            self.assertEqual(sum([prices[name] for name in names]), price)
            self.assertEqual(sum([many for many, way in packing]), price)
            for name in prices:
                self.assertLessEqual(sum([many for many, way in packing if name in way]), prices[name])
            left = [[link for link in layer if link[0] not in names] for layer in layers]
            self.assertEqual(ways_through(left), [])
            self.same(chain_cut(left)[0::2], (0, []))
        for many in (30, 60):
            layers = [[(f"n{j}_{i}", rng.randrange(10 ** 60), rng.randrange(9), rng.randrange(9)) for i in range(many)]
                      for j in range(60 // many)]
            self.told(layers)

    def test_a_name_on_two_links(self):
        one, other = ("a", 1, 1, 2), ("a", 1, 2, 3)
        for layers in ([[one, other]], [[one, one]], [[one], [other]], [[one], [], [one]], [[one, ("b", 1, 1, 1), one]],
                       [[("b", 1, 1, 1)], [one, ("c", 1, 1, 1), ("b", 0, "x", "y")]]):
            self.refuses(Twice, chain_cut, layers)

    def test_what_is_done_behind(self):
        layers = [[("a", 3, 1, 2)], [("b", 5, 2, 3)]]
        told = chain_cut(layers)
        layers[0].clear()
        layers.clear()
        self.same(told, (3, ("a",), [(3, ("a", "b"))]))
        told[2].clear()
        self.same(chain_cut([[("a", 3, 1, 2)], [("b", 5, 2, 3)]]), (3, ("a",), [(3, ("a", "b"))]))


class LayersOf(unittest.TestCase, Shapes):
    A_LAYER = [("a1", 3, 1, 2), ("a2", 5, 5, 2), ("a3", 0, 1, "2")]
    B_LAYER = [("b1", GREAT, 2, 7), ("b2", 4, "2", 7)]
    C_LAYER = [("c1", 1, 7, 0), ("c2", 2, 7, 0)]

    def told(self, tables, wanted, prices=PRICES):
        store, handed = sample(), copy.deepcopy((tables, prices))
        before = all_of(store)
        self.same(layers_of(store, tables, prices), wanted)
        self.same((tables, prices), handed)
        self.same(all_of(store), before)

    def stays(self, error, tables, prices=PRICES):
        store = sample()
        before = all_of(store)
        self.refuses(error, layers_of, store, tables, prices)
        self.same(all_of(store), before)

    def test_layers(self):
        self.told(["A"], [self.A_LAYER])
        self.told(["A", "B"], [self.A_LAYER, self.B_LAYER])
        self.told(["A", "B", "C"], [self.A_LAYER, self.B_LAYER, self.C_LAYER])
        self.told(["B", "C"], [self.B_LAYER, self.C_LAYER])

    def test_a_table_without_rows(self):
        self.told(["Same"], [[]], {})
        self.told(["B", "Same"], [self.B_LAYER, []])

    def test_prices_that_are_not_asked(self):
        self.told(["C"], [self.C_LAYER], {"c1": 1, "c2": 2, "x": "no price", 5: None})

    def test_the_cut_of_a_chain_of_tables(self):
        price, names, packing = chain_cut(layers_of(sample(), ["A", "B", "C"], PRICES))
        self.same(price, 3)
        # a3, which costs nothing, may be among them or not.
        self.assertEqual([name for name in names if name != "a3"], ["c1", "c2"])
        self.assertEqual(sum([many for many, way in packing]), 3)

    def test_refused(self):
        self.stays(NoTable, ["X"])
        self.stays(NoTable, ["A", "X"])
        self.stays(Twice, ["A", "A"])
        self.stays(Twice, ["A", "B", "A"])
        for tables in (["One"], ["None"], ["Three"], ["A", "One"], ["B", "Three"], ["A", "C"], ["B", "A"],
                       ["A", "Back"], ["Back", "A"], ["A", "B", "C", "Loop"], ["A", "B", "One", "C"], ["Three", "A"], ["None", "A"]):
            self.stays(NoFit, tables)
        self.stays(NoName, ["A"], {})
        self.stays(NoName, ["A", "B"], {"a1": 1, "a2": 1, "a3": 1, "b1": 1})
        self.stays(NoName, ["A", "B", "C"], {name: 1 for name in PRICES if name != "a2"})

    def test_each_is_looked_for_along_the_whole_list(self):
        self.stays(NoTable, ["A", "A", "X"], {})
        self.stays(NoTable, ["One", "Three", "A", "X"], {})
        self.stays(Twice, ["One", "Three", "A", "A"], {})
        self.stays(Twice, ["One", "One"], {})
        self.stays(NoFit, ["A", "B", "One"], {})
        self.stays(NoFit, ["A", "C"], {})

    def test_a_loop_of_two(self):
        # The last column is the first one again.
        store = Store()
        store.make("P", ("x", "y"))
        store.make("Q", ("y", "x"))
        self.refuses(NoFit, layers_of, store, ["P", "Q"], {})
        self.refuses(NoFit, layers_of, store, ["Q", "P"], {})
        self.same(layers_of(store, ["P"], {}), [[]])

    def test_what_is_done_behind(self):
        store, tables, prices = sample(), ["A", "B"], dict(PRICES)
        told = layers_of(store, tables, prices)
        tables.clear()
        prices.clear()
        store.strike("a1")
        self.same(told, [self.A_LAYER, self.B_LAYER])
        told[0].clear()
        self.same(layers_of(store, ["A"], PRICES), [self.A_LAYER[1:]])
