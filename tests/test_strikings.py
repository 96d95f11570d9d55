import copy
import itertools
import unittest

from tests.helper import E, R, S, Shapes, Z, all_of, ring, sample_store, some_questions, table
from whence.answers import answer
from whence.cuts import shows
from whence.stores import Store
from whence.strikings import strikings
from whence.sums import Sums
from whence.whys import whys

JOIN = ("join", R, S)
N = table("n")
STEP = ("keep", ("b", "a"), ("join", N, S))


def comes(question, store, row, gone):
    """Whether the row is there when these names are struck, in a twin."""
    twin = store.twin()
    for name in gone:
        twin.strike(name)
    return row in answer(Sums(), question, twin.named())[1]


class Strikings(unittest.TestCase, Shapes):
    def told(self, question, store, row, most, kept):
        before = (all_of(store), copy.deepcopy(kept))
        names, tree = strikings(question, store, row, most, kept)
        self.same((all_of(store), kept), before)
        reasons = whys(question, store, row)
        if names is None:
            self.assertIs(shows(tree, reasons, most, kept), True)
        else:
            self.assertEqual(list(names), sorted(set(names) - set(kept)))
            self.assertFalse(comes(question, store, row, names))
            self.assertIs(tree is None, names == ())
            self.assertTrue(names == () or shows(tree, reasons, len(names) - 1, kept))
        return names

    def test_a_few(self):
        store = sample_store()
        for question, row, most, kept, wanted in (
                (R, (2, 1), 4, [], ("r3",)), (R, (1, 1), 4, [], ("r1", "r4")), (R, (1, 1), 2, [], ("r1", "r4")),
                (R, (1, 1), 1, [], None), (R, (1, 1), 0, [], None), (R, (1, 1), 4, ["r4"], None),
                (JOIN, (1, 1, 2), 4, [], ("s1",)), (JOIN, (1, 1, 2), 4, ["s1"], ("r1", "r4")),
                (JOIN, (1, 1, 2), 1, ["s1"], None), (JOIN, (1, 1, 2), 4, ["s1", "r1"], None),
                (Z, (), 4, [], ("z1", "z2")), (("join", R, R), (2, 1), 1, [], ("r3",)), (("keep", (), R), (), 4, [], ("r1", "r2", "r3", "r4")),
                (("keep", (), R), (), 3, [], None), (ring(3, R, STEP), (2, 1), 4, ["nobody"], ("r3",)),
                (("put", R, ("call", "c", "a", S)), (2, 1), 4, [], ("r3", "s1"))):
            self.same(self.told(question, store, row, most, kept), wanted)

    def test_a_row_that_does_not_come(self):
        for question, row in ((R, (9, 9)), (R, ()), (R, (1, 1, 1)), (E, (1,)), (("keep", (), E), ()), (JOIN, (1, 1))):
            for most in (0, 4):
                self.same(strikings(question, sample_store(), row, most, []), ((), None))
                self.same(strikings(question, sample_store(), row, most, ["r1", "r2", "r3", "r4"]), ((), None))

    def test_no_fewer_do(self):
        store = sample_store()
        seen = {}
        for k, question in enumerate(some_questions(53, 90, 4)):
            for row in list(answer(Sums(), question, store.named())[1])[:3]:
                reasons = whys(question, store, row)
                if len(reasons) > 20:
                    continue
                kept = [[], ["r1", "s1"], ["r1", "r2", "r3", "r4"]][k % 3]
                names = self.told(question, store, row, 3, kept)
                seen[None if names is None else len(names)] = True
                free = [name for name in store.all_names() if name not in kept]
                for fewer in range(4 if names is None else len(names)):
                    for some in itertools.combinations(free, fewer):
                        self.assertFalse(all([set(some) & set(reason) for reason in reasons]))
        self.assertEqual(set(seen), {None, 1, 2, 3})

    def test_what_was_told_stays(self):
        store, kept = sample_store(), []
        told = strikings(JOIN, store, (1, 1, 2), 4, kept)
        wanted = copy.deepcopy(told)
        store.strike("s1")
        kept.append("r1")
        self.same(told, wanted)
        self.same(strikings(JOIN, store, (1, 1, 2), 4, kept), ((), None))

    def test_along_a_way(self):
        # From 1 to 4: over 2, over 3, or straight.
        store = Store()
        store.make("G", ("x", "y"))
        for name, row in (("a", (1, 2)), ("b", (2, 4)), ("c", (1, 3)), ("d", (3, 4)), ("e", (1, 4)), ("f", (2, 3))):
            store.put("G", name, row)
        on = ("keep", ("x", "y"), ("join", ("call", "y", "z", N), ("call", "x", "z", table("G"))))
        question = ring(3, table("G"), on)
        self.assertEqual(len(self.told(question, store, (1, 4), 4, [])), 3)
        self.assertIsNone(self.told(question, store, (1, 4), 2, []))
        self.assertIsNone(self.told(question, store, (1, 4), 4, ["e"]))
        self.same(self.told(question, store, (1, 4), 4, ["a", "c"]), ("b", "d", "e"))
