import copy
import itertools
import random
import unittest

from tests.helper import ROWS, E, R, S, Shapes, T, Z, all_of, ring, sample_store, some_questions, store_of, table
from whence.answers import answer
from whence.errors import NoAnswer, NoRow, NoTable, Twice
from whence.reasons import Reasons
from whence.stores import Store
from whence.sums import Sums
from whence.ways import Truths
from whence.whys import why, why_nots, why_not, whys

IS_A = ("is", "a", 1)
N = table("n")
JOIN = ("join", R, S)
STEP = ("keep", ("b", "a"), ("join", N, S))


def comes(question, store, row):
    marks = dict.fromkeys(store.all_names(), True)
    return row in answer(Truths(), question, store.marked(Truths(), marks))[1]


def least_slowly(sets):
    """Of some sets of names those that have no other one within them, as a mark of Reasons."""
    return tuple(sorted([tuple(sorted(one)) for one in set(sets) if not any([other < one for other in sets])]))


def least_by_trying(names, brings):
    """All least ones of the sets of these names that bring something."""
    sets = [frozenset(some) for many in range(len(names) + 1) for some in itertools.combinations(names, many)]
    return least_slowly([one for one in sets if brings(one)])


class Whys(unittest.TestCase, Shapes):
    def told(self, question, row, wanted):
        store = sample_store()
        before = all_of(store)
        self.same(whys(question, store, row), wanted)
        if wanted:
            self.assertIn(why(question, store, row), wanted)
        else:
            self.refuses(NoAnswer, why, question, store, row)
        self.same(all_of(store), before)

    def test_each_word(self):
        self.told(R, (1, 1), (("r1",), ("r4",)))
        self.told(R, (2, 1), (("r3",),))
        self.told(Z, (), (("z1",), ("z2",)))
        self.told(("pick", IS_A, R), (1, 1), (("r1",), ("r4",)))
        self.told(("keep", ("b",), R), (1,), (("r1",), ("r3",), ("r4",)))
        self.told(("keep", (), R), (), (("r1",), ("r2",), ("r3",), ("r4",)))
        self.told(("call", "a", "q", R), (2, 1), (("r3",),))
        self.told(JOIN, (1, 1, 2), (("r1", "s1"), ("r4", "s1")))
        self.told(("put", R, ("call", "c", "a", S)), (2, 1), (("r3",), ("s1",)))
        self.told(("put", ("keep", (), R), ("keep", (), JOIN)), (), (("r1",), ("r2",), ("r3",), ("r4",)))

    def test_only_least_sets(self):
        self.told(("join", R, R), (1, 1), (("r1",), ("r4",)))
        self.told(("put", ("keep", ("a", "b"), JOIN), R), (2, 1), (("r3",),))

    def test_rings(self):
        self.told(ring(3, R, STEP), (2, 1), (("r3",),))
        self.told(ring(0, R, ("join", N, R)), (1, 1), (("r1",), ("r4",)))
        on = ("keep", ("x", "y"), ("join", ("call", "y", "z", N), ("call", "x", "z", table("G"))))
        store = Store()
        store.make("G", ("x", "y"))
        for name, row in (("a", (1, 2)), ("b", (2, 3)), ("c", (1, 3)), ("d", (3, 4)), ("e", (2, 1))):
            store.put("G", name, row)
        self.same(whys(ring(1, table("G"), on), store, (1, 4)), (("c", "d"),))
        self.same(whys(ring(2, table("G"), on), store, (1, 4)), (("a", "b", "d"), ("c", "d")))
        # With more rounds there are more trees, but no more least sets.
        self.same(whys(ring(7, table("G"), on), store, (1, 4)), (("a", "b", "d"), ("c", "d")))

    def test_a_row_that_does_not_come(self):
        for row in ((2, 2), (), (1,), (1, 1, 1), ("1", 1)):
            for question in (R, ("pick", IS_A, R), ("put", R, R), ring(2, R, N)):
                self.told(question, row, ())
        self.told(E, (1,), ())
        self.told(("keep", (), E), (), ())
        self.told(("join", R, E), (1, 1), ())

    def test_the_least_sets_of_the_sum(self):
        store = sample_store()
        for question in some_questions(46, 120, 4):
            for row, some in list(answer(Sums(), question, store.named())[1].items())[:10]:
                told = whys(question, store, row)
                self.same(told, least_slowly([frozenset(product) for product, many in some]), question)
                self.assertIs(Reasons().is_mark(told), True)

    def test_the_sets_found_by_trying(self):
        rows = [row for row in ROWS if row[1] in ("r1", "r3", "r4", "s1", "s3", "t1", "z1")]
        store = store_of(rows)
        for question in some_questions(47, 25, 3):
            for row in list(answer(Sums(), question, store.named())[1])[:3]:
                def brings(names):
                    return comes(question, store_of([one for one in rows if one[1] in names]), row)
                self.same(whys(question, store, row), least_by_trying(store.all_names(), brings), question)

    def test_a_why_alone_in_a_new_store(self):
        store = sample_store()
        for question in some_questions(48, 60, 4):
            for row in list(answer(Sums(), question, store.named())[1])[:4]:
                told = why(question, store, row)
                self.assertIn(told, whys(question, store, row))
                self.assertTrue(comes(question, store_of([one for one in ROWS if one[1] in told]), row))
                for name in told:
                    fewer = [one for one in ROWS if one[1] in told and one[1] != name]
                    self.assertFalse(comes(question, store_of(fewer), row))

    def test_what_was_told_stays(self):
        store = sample_store()
        told, one = whys(R, store, (1, 1)), why(R, store, (2, 1))
        store.strike("r1")
        store.strike("r3")
        self.same((told, one), ((("r1",), ("r4",)), ("r3",)))
        self.same(whys(R, store, (1, 1)), (("r4",),))
        self.refuses(NoAnswer, why, R, store, (2, 1))

    def test_many_reasons(self):
        rows = [("R", f"r{k:02}", (k, 0)) for k in range(30)] + [("S", f"s{k:02}", (0, k)) for k in range(30)]
        store = store_of(rows)
        told = whys(("keep", (), JOIN), store, ())
        self.assertEqual(told, tuple([(f"r{k:02}", f"s{j:02}") for k in range(30) for j in range(30)]))


class WhyNots(unittest.TestCase, Shapes):
    STOCK = [("R", "new1", (2, 2)), ("S", "new2", (2, 2)), ("R", "new3", (2, 2)), ("S", "new4", (1, 5)),
             ("T", "new5", (5, 2))]

    def told(self, question, row, wanted, stock=STOCK):
        store, handed = sample_store(), copy.deepcopy(stock)
        before = all_of(store)
        self.same(why_nots(question, store, handed, row), wanted)
        if wanted:
            self.assertIn(why_not(question, store, handed, row), wanted)
        else:
            self.refuses(NoAnswer, why_not, question, store, handed, row)
        self.same(handed, stock)
        self.same(all_of(store), before)

    def test_a_row_that_may_come(self):
        self.told(R, (2, 2), (("new1",), ("new3",)))
        self.told(JOIN, (2, 2, 2), (("new1", "new2"), ("new2", "new3")))
        # Some of it stands.
        self.told(JOIN, (2, 1, 5), (("new4",),))
        self.told(("keep", ("c",), ("join", JOIN, T)), (5,), (("new4", "new5"),))
        self.told(("join", R, R), (2, 2), (("new1",), ("new3",)))
        self.told(ring(2, R, STEP), (2, 2), (("new1",), ("new3",)))
        self.told(("put", R, ("keep", ("b", "a"), R)), (2, 2), (("new1",), ("new3",)))

    def test_a_row_that_is_there_without(self):
        self.told(R, (1, 1), ((),))
        self.told(JOIN, (1, 1, 2), ((),))
        self.told(("keep", (), R), (), ((),))
        self.told(("put", R, R), (2, 1), ((),), [])
        # A row of the stock that is there already.
        self.told(R, (1, 1), ((),), [("R", "new", (1, 1))])

    def test_a_row_that_can_not_come(self):
        self.told(R, (7, 7), ())
        self.told(("pick", IS_A, R), (2, 2), ())
        self.told(JOIN, (2, 2, 9), ())
        for row in ((), (1,), (1, 1, 1)):
            self.told(R, row, ())
        self.told(E, (1,), ())

    def test_an_empty_stock(self):
        self.told(R, (2, 2), (), [])
        self.told(R, (2, 1), ((),), [])
        self.told(E, (1,), (), [])

    def test_tables_without_rows(self):
        self.told(E, (4,), (("e",),), [("E", "e", (4,))])
        self.told(("join", E, Z), (4,), (("e",),), [("E", "e", (4,)), ("Z", "z", ())])

    def test_the_sets_found_by_trying(self):
        rng = random.Random(49)
        mixed = {(): 0, ((),): 0}
        for question in some_questions(50, 150, 3):
            rows = rng.sample(ROWS, len(ROWS))
            store, stock = store_of(rows[:6]), rows[6:]
            every = answer(Sums(), question, sample_store().named())
            for row in rng.sample(list(every[1]), min(2, len(every[1]))) + [tuple([9 for column in every[0]])]:
                def brings(names):
                    return comes(question, store_of(rows[:6] + [one for one in stock if one[1] in names]), row)
                wanted = least_by_trying([name for home, name, one in stock], brings)
                self.same(why_nots(question, store, stock, row), wanted, question)
                if wanted:
                    self.assertIn(why_not(question, store, stock, row), wanted)
                mixed[wanted] = mixed.get(wanted, 0) + 1
        self.assertGreater(mixed[()], 20)
        self.assertGreater(mixed[((),)], 20)
        self.assertGreater(len(mixed), 20)

    def test_what_is_refused_one_by_one(self):
        good, none, twice = ("R", "new", (7, 7)), ("X", "newer", (1, 1)), ("S", "r1", (1, 1))
        again, wrong = ("S", "new", (1, 1)), ("R", "newest", (1,))
        store = sample_store()
        before = all_of(store)
        for stock, error in (([none], NoTable), ([twice], Twice), ([wrong], NoRow), ([good, good], Twice),
                             ([good, again], Twice), ([wrong, none], NoRow), ([none, wrong], NoTable),
                             ([good, twice, none], Twice), ([good, wrong, twice], NoRow), ([("X", "r1", ())], NoTable),
                             ([("R", "r1", ())], Twice), ([good, ("R", "new", ())], Twice), ([("Z", "z", (1,))], NoRow),
                             ([good, ("n", "x", (1, 1))], NoTable)):
            # Whatever the row: one that is there, one that may come, one that can not.
            for row in ((1, 1), (7, 7), (8, 8), ()):
                for ask in (why_nots, why_not):
                    self.refuses(error, ask, R, store, stock, row)
                    self.refuses(error, ask, ring(1, R, N), store, stock, row)
        self.same(all_of(store), before)

    def test_what_is_done_behind(self):
        store, stock = sample_store(), list(self.STOCK)
        told, one = why_nots(R, store, stock, (2, 2)), why_not(JOIN, store, stock, (2, 1, 5))
        stock.clear()
        store.strike("r1")
        self.same((told, one), ((("new1",), ("new3",)), ("new4",)))
        self.same(why_nots(R, store, stock, (2, 2)), ())
        # The stock's names are still free.
        store.put("R", "new1", (2, 2))
        self.same(why_nots(R, store, stock, (2, 2)), ((),))

    def test_sixty_rows_with_the_stock(self):
        store = store_of([("R", f"r{k:02}", (k, k)) for k in range(20)])
        stock = [("S", f"s{k:02}", (k, 0)) for k in range(20)] + [("T", f"t{k:02}", (0, k)) for k in range(20)]
        self.same(why_nots(("keep", ("c",), ("join", ("call", "a", "q", R), ("join", S, T))), store, stock, (0,)),
                  tuple([(f"s{k:02}", f"t{j:02}") for k in range(20) for j in range(20)]))
