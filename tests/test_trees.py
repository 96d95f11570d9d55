import copy
import random
import unittest

from tests.helper import (GREAT, E, R, S, Shapes, T, Z, all_of, ring, sample_store, some_questions, table, told_of,
                          unrolled_slowly)
from whence.answers import answer
from whence.errors import NoAnswer, NoMark, NoName
from whence.picks import passes
from whence.stores import Store
from whence.sums import Sums
from whence.trees import brought, cheapest, tree_product, trees
from whence.ways import Costs

IS_A = ("is", "a", 1)
N = table("n")
BACK = ("keep", ("b", "a"), R)
JOIN = ("join", R, S)
STEP = ("keep", ("b", "a"), ("join", N, S))
WRAPPED = ("pick", "keep", "call", "first", "second")


def x(name):
    return ("row", name)


def all_slowly(question, store):
    """The head, and all pairs of a row and a tree that brings it, of a question without rings: point 43, read off."""
    word = question[0]
    if word == "table":
        pairs = [(store.row_of(name)[1], x(name)) for name in store.names(question[1])]
        return store.heads()[question[1]], pairs
    if word in ("join", "put"):
        (head, ones), (other, more) = [all_slowly(part, store) for part in question[1:]]
        if word == "put":
            turned = [(told_of(other, row, head), ("second", tree)) for row, tree in more]
            return head, [(row, ("first", tree)) for row, tree in ones] + turned
        shared = [column for column in head if column in other]
        rest = [column for column in other if column not in head]
        return head + tuple(rest), [(row + told_of(other, lower, rest), ("join", tree, below))
                                    for row, tree in ones for lower, below in more
                                    if told_of(head, row, shared) == told_of(other, lower, shared)]
    head, pairs = all_slowly(question[-1], store)
    pairs = [(row, (word, tree)) for row, tree in pairs]
    if word == "pick":
        return head, [(row, tree) for row, tree in pairs if passes(question[1], head, row)]
    if word == "keep":
        return question[1], [(told_of(head, row, question[1]), tree) for row, tree in pairs]
    return tuple([question[2] if column == question[1] else column for column in head]), pairs


def spoiled(tree, names):
    """Trees that are as this one but at one place."""
    told = [(form, tree) for form in WRAPPED] + [("join", tree, tree)]
    if tree[0] == "row":
        return told + [x(name) for name in names if name != tree[1]]
    told.append(tree[1])
    told.extend([(form,) + tree[1:] for form in WRAPPED if form != tree[0] and len(tree) == 2])
    if tree[0] == "join":
        told.extend([tree[2], ("join", tree[2], tree[1])])
    for k in range(1, len(tree)):
        told.extend([tree[:k] + (below,) + tree[k + 1:] for below in spoiled(tree[k], names)])
    return told


class Trees(unittest.TestCase, Shapes):
    def told(self, question, row, wanted):
        store = sample_store()
        before = all_of(store)
        told = trees(question, store, row)
        self.assertIs(told.__class__, list)
        self.same(sorted(told), sorted(wanted))
        for tree in told:
            self.same(brought(tree, question, store), row)
        self.same(all_of(store), before)

    def test_table(self):
        self.told(R, (1, 1), [x("r1"), x("r4")])
        self.told(R, (2, 1), [x("r3")])
        self.told(R, (1, "1"), [x("r2")])
        self.told(Z, (), [x("z1"), x("z2")])

    def test_a_row_that_does_not_come(self):
        for row in ((2, 2), ("2", 1), (1,), (), (1, 1, 1), (GREAT, "x" * 60)):
            for question in (R, ("pick", IS_A, R), ("put", R, R), ("call", "a", "x", R), ("join", R, R), ring(2, R, N),
                             BACK):
                self.told(question, row, [])
        self.told(E, (1,), [])
        self.told(("keep", (), E), (), [])
        self.told(("keep", (), R), (1,), [])
        self.told(("join", E, R), (1, 1), [])

    def test_pick_keep_call(self):
        self.told(("pick", IS_A, R), (1, 1), [("pick", x("r1")), ("pick", x("r4"))])
        self.told(("pick", IS_A, R), (2, 1), [])
        self.told(("keep", ("b",), R), (1,), [("keep", x("r1")), ("keep", x("r3")), ("keep", x("r4"))])
        self.told(("keep", (), R), (), [("keep", x(name)) for name in ("r1", "r2", "r3", "r4")])
        self.told(BACK, ("1", 1), [("keep", x("r2"))])
        self.told(("call", "a", "q", R), (2, 1), [("call", x("r3"))])

    def test_join(self):
        self.told(JOIN, (1, 1, 2), [("join", x("r1"), x("s1")), ("join", x("r4"), x("s1"))])
        self.told(("join", R, R), (1, 1), [("join", x("r1"), x("r1")), ("join", x("r1"), x("r4")),
                                           ("join", x("r4"), x("r1")), ("join", x("r4"), x("r4"))])
        self.told(("join", S, R), (1, 2, 2), [("join", x("s1"), x("r3"))])
        self.told(("join", R, BACK), (1, "1"), [("join", x("r2"), ("keep", x("r2")))])
        self.told(("join", Z, ("keep", (), T)), (), [("join", x(one), ("keep", x(other))) for one in ("z1", "z2")
                                                     for other in ("t1", "t2", "t3")])

    def test_put(self):
        self.told(("put", R, R), (2, 1), [("first", x("r3")), ("second", x("r3"))])
        # The second's columns stand in another order.
        self.told(("put", R, BACK), (1, "1"), [("first", x("r2")), ("second", ("keep", x("r2")))])
        self.told(("put", BACK, R), ("1", 1), [("first", ("keep", x("r2"))), ("second", x("r2"))])
        self.told(("put", BACK, ("call", "c", "a", S)), (1, 2), [("first", ("keep", x("r3"))),
                                                                 ("second", ("call", x("s1")))])
        self.told(("put", R, ("call", "c", "a", S)), (2, "1"), [("second", ("call", x("s2")))])
        self.told(("put", ("put", R, R), R), (2, 1), [("first", ("first", x("r3"))), ("first", ("second", x("r3"))),
                                                      ("second", x("r3"))])

    def test_rings_are_unrolled(self):
        self.told(ring(0, R, STEP), (2, 1), [x("r3")])
        self.told(ring(1, R, N), (2, 1), [("first", x("r3")), ("second", x("r3"))])
        self.told(ring(2, R, N), (2, 1), [("first", x("r3")), ("second", ("first", x("r3"))),
                                          ("second", ("second", x("r3")))])
        one, other = [("second", ("keep", ("join", x("r3"), x(name)))) for name in ("s1", "s3")]
        self.told(ring(1, R, STEP), (2, 1), [("first", x("r3")), one, other])
        self.told(("keep", ("a",), ring(1, R, STEP)), (2,), [("keep", ("first", x("r3"))), ("keep", one),
                                                             ("keep", other)])
        self.told(ring(1, R, ("keep", ("b", "a"), ("pick", ("same", "b", "c"), ("join", N, S)))), (2, 1),
                  [("first", x("r3")), ("second", ("keep", ("pick", ("join", x("r3"), x("s3")))))])

    def test_all_trees_of_many_questions(self):
        store = sample_store()
        for question in some_questions(44, 150, 4):
            head, pairs = all_slowly(unrolled_slowly(question), store)
            sums = answer(Sums(), question, store.named())
            self.same(head, sums[0])
            wanted = {}
            for row, tree in pairs:
                wanted.setdefault(row, []).append(tree)
            self.same(sorted(wanted, key=repr), sorted(sums[1], key=repr))
            for row in list(wanted)[:12]:
                told = trees(question, store, row)
                self.same(sorted(told), sorted(wanted[row]), question)
                self.same(sum_of(told), sums[1][row])

    def test_two_thousand_trees(self):
        store = Store()
        for name, head in (("R", ("a",)), ("S", ("b",))):
            store.make(name, head)
        for k in range(60):
            store.put("R", f"n{k:02}", (k % 2,))
        told = trees(("keep", (), ("join", R, ("call", "a", "b", R))), store, ())
        self.assertEqual((len(told), len(set(told))), (3600, 3600))
        # Each of many rows has many trees, of which only one row's are asked.
        four = ("join", ("join", R, R), ("join", R, R))
        store = Store()
        store.make("R", ("a",))
        for k in range(60):
            store.put("R", f"n{k:02}", (k // 6,))
        told = trees(("keep", (), ("pick", ("is", "a", 3), four)), store, ())
        self.assertEqual((len(told), len(set(told))), (1296, 1296))
        self.assertEqual(len(trees(four, store, (3,))), 1296)

    def test_a_deep_question(self):
        question, wanted = R, x("r3")
        for k in range(97):
            question, wanted = ("keep", ("b", "a"), question), ("keep", wanted)
        self.told(question, (1, 2), [wanted])

    def test_what_was_told_is_the_asker_s_own(self):
        store = sample_store()
        told = trees(R, store, (1, 1))
        told.clear()
        told = trees(R, store, (1, 1))
        self.same(sorted(told), [x("r1"), x("r4")])
        store.strike("r1")
        self.same(sorted(told), [x("r1"), x("r4")])
        self.same(trees(R, store, (1, 1)), [x("r4")])


def sum_of(some):
    way = Sums()
    told = way.nought
    for tree in some:
        told = way.plus(told, ((tree_product(tree), 1),))
    return told


class Brought(unittest.TestCase, Shapes):
    def told(self, tree, question, wanted):
        store = sample_store()
        before = all_of(store)
        self.same(brought(tree, question, store), wanted)
        self.same(all_of(store), before)

    def test_each_form(self):
        self.told(x("r2"), R, (1, "1"))
        self.told(x("z1"), Z, ())
        self.told(("pick", x("r1")), ("pick", IS_A, R), (1, 1))
        self.told(("keep", x("r2")), BACK, ("1", 1))
        self.told(("keep", x("r2")), ("keep", (), R), ())
        self.told(("call", x("r2")), ("call", "a", "q", R), (1, "1"))
        self.told(("join", x("r3"), x("s1")), JOIN, (2, 1, 2))
        self.told(("first", x("r2")), ("put", R, BACK), (1, "1"))
        self.told(("second", ("keep", x("r2"))), ("put", R, BACK), (1, "1"))
        self.told(("second", x("r2")), ("put", BACK, R), ("1", 1))

    def test_no_tree_of_the_question(self):
        for tree, question in ((x("s1"), R), (x("nobody"), R), (x("r1"), E), (("pick", x("r1")), R),
                               (x("r1"), ("pick", IS_A, R)), (("keep", x("r1")), ("pick", IS_A, R)),
                               (("call", x("r1")), BACK), (("keep", x("r1")), ("call", "a", "a", R)),
                               (("pick", x("r3")), ("pick", IS_A, R)), (("join", x("r2"), x("s1")), JOIN),
                               (("join", x("s1"), x("r1")), JOIN), (("first", x("r1")), JOIN),
                               (("join", x("r1"), x("r1")), ("put", R, R)), (x("r1"), ("put", R, R)),
                               (("first", ("keep", x("r1"))), ("put", R, BACK)),
                               (("second", x("r1")), ("put", R, BACK)), (("first", x("r1")), R),
                               (("keep", ("keep", x("r1"))), BACK), (("second", x("r1")), ring(0, R, N)),
                               (x("r1"), ring(1, R, N)), (("second", ("second", x("r1"))), ring(1, R, N)),
                               (("join", ("join", x("r1"), x("r1")), x("s1")), JOIN)):
            self.told(tree, question, None)

    def test_trees_of_rings(self):
        self.told(x("r3"), ring(0, R, STEP), (2, 1))
        self.told(("first", x("r3")), ring(1, R, N), (2, 1))
        self.told(("second", ("first", x("r3"))), ring(2, R, N), (2, 1))
        self.told(("second", ("keep", ("join", ("first", x("r3")), x("s1")))), ring(2, R, STEP), (2, 1))

    def test_a_name_that_is_struck(self):
        store = sample_store()
        store.strike("r1")
        self.assertIsNone(brought(x("r1"), R, store))
        store.put("S", "r1", (1, 1))
        self.assertIsNone(brought(x("r1"), R, store))
        store.put("R", "new", (7, 7))
        self.same(brought(x("new"), R, store), (7, 7))

    def test_trees_spoiled_at_one_place(self):
        store = sample_store()
        rng = random.Random(45)
        names = store.all_names() + ["nobody"]
        bad = 0
        for question in some_questions(46, 70, 3, 4):
            pairs = all_slowly(unrolled_slowly(question), store)[1]
            rows = {tree: row for row, tree in pairs}
            for row, tree in rng.sample(pairs, min(4, len(pairs))):
                self.same(brought(tree, question, store), row)
                for other in spoiled(tree, names):
                    self.same(brought(other, question, store), rows.get(other), (other, question))
                    bad += other not in rows
        self.assertGreater(bad, 1000)


class Products(unittest.TestCase, Shapes):
    def test_names_at_the_leaves(self):
        self.same(tree_product(x("b")), ("b",))
        self.same(tree_product(("keep", ("pick", ("call", x("b"))))), ("b",))
        self.same(tree_product(("join", x("b"), ("first", x("a")))), ("a", "b"))
        self.same(tree_product(("join", ("join", x("b"), x("a")), ("second", x("b")))), ("a", "b", "b"))

    def test_deep(self):
        tree = x("a")
        for k in range(98):
            tree = ("pick", tree)
        self.same(tree_product(tree), ("a",))


class Cheapest(unittest.TestCase, Shapes):
    def told(self, question, store, costs, row):
        before = (all_of(store), copy.deepcopy(costs))
        told = cheapest(question, store, costs, row)
        self.same((all_of(store), costs), before)
        self.same(brought(told, question, store), row)
        spent = [costs[name] for name in tree_product(told)]
        self.assertNotIn(None, spent)
        self.same(sum(spent), answer(Costs(), question, store.marked(Costs(), costs))[1][row])
        return told

    def test_each_word(self):
        store = sample_store()
        costs = {name: 10 + k for k, name in enumerate(reversed(store.all_names()))}
        for question, row, wanted in (
                (R, (1, 1), x("r4")), (("pick", IS_A, R), (1, 1), ("pick", x("r4"))),
                (("keep", (), R), (), ("keep", x("r4"))), (("call", "a", "q", R), (2, 1), ("call", x("r3"))),
                (JOIN, (1, 1, 2), ("join", x("r4"), x("s1"))), (("put", R, R), (2, 1), None),
                (("put", ("keep", (), R), ("keep", (), S)), (), ("second", ("keep", x("s3")))),
                (("put", ("keep", (), S), ("keep", (), R)), (), ("first", ("keep", x("s3")))),
                (("put", BACK, ("call", "c", "a", S)), (1, 2), ("second", ("call", x("s1")))), (Z, (), x("z2"))):
            told = self.told(question, store, costs, row)
            if wanted is not None:
                self.same(told, wanted)

    def test_costs_of_none_and_of_nought(self):
        store = sample_store()
        costs = dict.fromkeys(store.all_names(), 0)
        self.told(JOIN, store, costs, (1, 1, 2))
        costs = {**costs, "r1": None, "r4": GREAT}
        self.same(self.told(R, store, costs, (1, 1)), x("r4"))
        self.same(self.told(("keep", ("b",), R), store, costs, (1,)), ("keep", x("r3")))
        self.same(self.told(("put", R, ("keep", ("a", "b"), JOIN)), store, costs, (1, 1)), ("first", x("r4")))
        self.same(self.told(("join", R, ("put", R, R)), store, {**costs, "r4": None, "r1": 0}, (1, 1))[1], x("r1"))

    def test_names_that_stand_several_times(self):
        # Twice r1 costs more than once r2 and once r3.
        store = Store()
        store.make("R", ("a",))
        for name in ("r1", "r2", "r3"):
            store.put("R", name, (1,))
        question = ("put", ("join", R, R), ("pick", ("is", "a", 1), R))
        for costs in ({"r1": 2, "r2": 5, "r3": 7}, {"r1": 9, "r2": 5, "r3": 7}, {"r1": None, "r2": 0, "r3": 7}):
            self.told(question, store, costs, (1,))
            self.same(tree_product(self.told(("join", R, R), store, costs, (1,))),
                      (min(costs, key=lambda name: GREAT if costs[name] is None else costs[name]),) * 2)

    def test_many_questions(self):
        store = sample_store()
        rng = random.Random(47)
        told = 0
        for question in some_questions(48, 150, 4):
            costs = {name: rng.choice((0, 1, 1, 2, 3, 5, 8, None)) for name in store.all_names()}
            for row, mark in list(answer(Costs(), question, store.marked(Costs(), costs))[1].items())[:6]:
                self.assertIn(self.told(question, store, costs, row), trees(question, store, row))
                told += 1
        self.assertGreater(told, 200)

    def test_more_names_in_costs(self):
        store = sample_store()
        costs = {**dict.fromkeys(store.all_names(), 1), "nobody": "nothing", 3: -1}
        self.told(R, store, costs, (1, 1))

    def test_what_is_refused(self):
        store = sample_store()
        full = dict.fromkeys(store.all_names(), 1)
        before = all_of(store)
        for row in ((1, 1), (7, 7), (), (1, 1, 1)):
            self.refuses(NoName, cheapest, R, store, {}, row)
            self.refuses(NoName, cheapest, R, store, {name: full[name] for name in full if name != "z2"}, row)
            for mark in (-1, True, "1", (), 0 == 1, [1]):
                self.refuses(NoMark, cheapest, R, store, {**full, "z1": mark}, row)
            # Gone through sorted, name by name.
            self.refuses(NoMark, cheapest, R, store, {"r1": -1}, row)
            self.refuses(NoName, cheapest, R, store, {name: -1 for name in full if name != "r1"}, row)
            self.same(all_of(store), before)
        for row in ((7, 7), (), (1,), (1, 1, 1), ("1", 1)):
            self.refuses(NoAnswer, cheapest, R, store, full, row)
        self.refuses(NoAnswer, cheapest, E, store, full, (1,))
        self.refuses(NoAnswer, cheapest, ("keep", (), E), store, full, ())
        self.refuses(NoAnswer, cheapest, R, store, {**full, "r1": None, "r4": None}, (1, 1))
        self.refuses(NoAnswer, cheapest, JOIN, store, {**full, "s1": None}, (1, 1, 2))
        self.refuses(NoAnswer, cheapest, ring(3, R, STEP), store, full, (5, 5))
        self.same(all_of(store), before)
