import copy
import random
import unittest

from tests.helper import (HEADS, SEERS, WAYS, E, R, S, Shapes, Z, ring, sample_store, sample_tables, slowly,
                          some_question, table)
from whence.answers import answer, work
from whence.errors import NoColumn, NoFit, NoTable, Twice
from whence.questions import degree, head_of
from whence.sums import Sums, bare
from whence.ways import Costs, Counts, Lows, Rounds, Truths

IS_A = ("is", "a", 1)
# One step along edges.
EDGES = (("x", "y"), {(1, 2): 1, (2, 3): 1, (3, 4): 1, (1, 3): 1, (4, 4): 1})
G = ("table", "G")
ON = ("keep", ("x", "y"), ("join", ("call", "y", "z", ("table", "n")), ("call", "x", "z", G)))


class Never:
    """A way by which nothing may be reckoned: what is refused is refused ahead of that."""

    def __init__(self):
        self.nought, self.one = 0, 1

    def plus(self, a, b):
        raise AssertionError("reckoned")

    def times(self, a, b):
        raise AssertionError("reckoned")

    def is_mark(self, thing):
        return True


class EachWord(unittest.TestCase, Shapes):
    TABLES = {"R": (("a", "b"), {(1, 1): 2, (1, 2): 3, (2, 1): 5}), "S": (("b", "c"), {(1, 7): 10, (2, 7): 100}),
              "Q": (("b", "a"), {(1, 1): 4, (9, 9): 6}), "E": (("b",), {}), "Z": ((), {(): 3})}

    def told(self, way, question, wanted, pairs):
        tables = copy.deepcopy(self.TABLES)
        self.same(answer(way, question, tables), wanted)
        self.same(work(way, question, tables), pairs)
        self.same(tables, self.TABLES)

    def test_table(self):
        self.told(Counts(), R, self.TABLES["R"], 0)
        self.told(Counts(), E, (("b",), {}), 0)
        self.told(Counts(), Z, ((), {(): 3}), 0)

    def test_pick(self):
        self.told(Counts(), ("pick", IS_A, R), (("a", "b"), {(1, 1): 2, (1, 2): 3}), 0)
        self.told(Counts(), ("pick", ("not", ("same", "a", "b")), R), (("a", "b"), {(1, 2): 3, (2, 1): 5}), 0)
        self.told(Counts(), ("pick", ("is", "a", "1"), R), (("a", "b"), {}), 0)

    def test_keep(self):
        self.told(Counts(), ("keep", ("a",), R), (("a",), {(1,): 5, (2,): 5}), 0)
        self.told(Costs(), ("keep", ("a",), R), (("a",), {(1,): 2, (2,): 5}), 0)
        self.told(Counts(), ("keep", ("b", "a"), R), (("b", "a"), {(1, 1): 2, (2, 1): 3, (1, 2): 5}), 0)
        self.told(Counts(), ("keep", (), R), ((), {(): 10}), 0)
        self.told(Rounds(5), ("keep", (), ("pick", IS_A, R)), ((), {}), 0)
        self.told(Counts(), ("keep", (), E), ((), {}), 0)

    def test_call(self):
        self.told(Counts(), ("call", "a", "n", R), (("n", "b"), self.TABLES["R"][1]), 0)
        self.told(Counts(), ("call", "a", "a", R), self.TABLES["R"], 0)

    def test_join(self):
        self.told(Counts(), ("join", R, S), (("a", "b", "c"), {(1, 1, 7): 20, (1, 2, 7): 300, (2, 1, 7): 50}), 6)
        self.told(Costs(), ("join", R, S), (("a", "b", "c"), {(1, 1, 7): 12, (1, 2, 7): 103, (2, 1, 7): 15}), 6)
        self.told(Counts(), ("join", R, table("Q")), (("a", "b"), {(1, 1): 8}), 6)
        self.told(Counts(), ("join", R, E), (("a", "b"), {}), 0)
        self.told(Counts(), ("join", Z, S), (("b", "c"), {(1, 7): 30, (2, 7): 300}), 2)
        self.told(Counts(), ("join", R, R), (("a", "b"), {(1, 1): 4, (1, 2): 9, (2, 1): 25}), 9)

    def test_put(self):
        self.told(Counts(), ("put", R, table("Q")), (("a", "b"), {(1, 1): 6, (1, 2): 3, (2, 1): 5, (9, 9): 6}), 0)
        self.told(Counts(), ("put", table("Q"), R), (("b", "a"), {(1, 1): 6, (2, 1): 3, (1, 2): 5, (9, 9): 6}), 0)
        self.told(Costs(), ("put", R, table("Q")), (("a", "b"), {(1, 1): 2, (1, 2): 3, (2, 1): 5, (9, 9): 6}), 0)
        self.told(Rounds(6), ("put", R, table("Q")), (("a", "b"), {(1, 2): 3, (2, 1): 5, (9, 9): 6}), 0)

    def test_work_of_several_joins(self):
        three = ("join", ("join", R, S), R)
        self.told(Counts(), three, (("a", "b", "c"), {(1, 1, 7): 40, (1, 2, 7): 900, (2, 1, 7): 250}), 6 + 9)
        self.told(Counts(), ("keep", (), ("put", three, three)), ((), {(): 2380}), 30)
        self.told(Counts(), ("join", ("pick", IS_A, three), ("call", "c", "d", S)),
                  (("a", "b", "c", "d"), {(1, 1, 7, 7): 400, (1, 2, 7, 7): 90000}), 15 + 4)

    def test_work_hangs_on_the_way(self):
        cut = ("join", ("keep", (), ("pick", IS_A, R)), S)
        self.same(work(Counts(), cut, self.TABLES), 2)
        self.same(work(Rounds(5), cut, self.TABLES), 0)


class Rings(unittest.TestCase, Shapes):
    def paths(self, times):
        """How many ways of at most so many steps and one there are from each to each."""
        told = dict(EDGES[1])
        for k in range(times):
            more = dict(EDGES[1])
            for (x, y), many in told.items():
                for (z, w) in EDGES[1]:
                    if y == z:
                        more[(x, w)] = more.get((x, w), 0) + many
            told = more
        return told

    def test_rounds(self):
        tables = {"G": EDGES}
        for times in range(9):
            self.same(answer(Counts(), ring(times, G, ON), tables), (("x", "y"), self.paths(times)))
            truths = {"G": (("x", "y"), {row: True for row in EDGES[1]})}
            self.same(answer(Truths(), ring(times, G, ON), truths),
                      (("x", "y"), {row: True for row in self.paths(times)}))

    def test_least_costs(self):
        tables = {"G": (("x", "y"), {(1, 2): 1, (2, 3): 2, (1, 3): 9, (3, 1): 1})}
        self.same(answer(Costs(), ring(0, G, ON), tables), tables["G"])
        wanted = {(1, 2): 1, (2, 3): 2, (1, 3): 3, (3, 1): 1, (2, 1): 3, (1, 1): 10, (3, 2): 2, (3, 3): 10}
        self.same(answer(Costs(), ring(1, G, ON), tables), (("x", "y"), wanted))
        self.same(answer(Costs(), ring(2, G, ON), tables)[1][(1, 1)], 4)

    def test_round_0_and_round_1(self):
        tables = {"R": (("a", "b"), {(1, 2): 2}), "Q": (("b", "a"), {(2, 1): 5, (4, 3): 7})}
        self.same(answer(Counts(), ring(0, R, table("Q")), tables), (("a", "b"), {(1, 2): 2}))
        for times in (1, 2, 8):
            self.same(answer(Counts(), ring(times, R, table("Q")), tables), (("a", "b"), {(1, 2): 7, (3, 4): 7}))

    def test_the_start_comes_again_each_round(self):
        tables = {"R": (("a", "b"), {(1, 2): 3})}
        for times in range(9):
            self.same(answer(Counts(), ring(times, R, table("n")), tables), (("a", "b"), {(1, 2): 3 * (times + 1)}))
            self.same(answer(Costs(), ring(times, R, table("n")), tables), (("a", "b"), {(1, 2): 3}))
            left = 3 * (times + 1) % 6
            self.same(answer(Rounds(6), ring(times, R, table("n")), tables),
                      (("a", "b"), {(1, 2): left} if left else {}))

    def test_rounds_that_come_back_to_an_earlier_one_go_on(self):
        tables = {"R": (("a", "b"), {(1, 2): 1, (2, 1): 1})}
        for times in range(9):
            told = answer(Rounds(2), ring(times, R, ("keep", ("b", "a"), table("n"))), tables)
            self.same(told, (("a", "b"), {} if times % 2 else tables["R"][1]))

    def test_columns_in_another_order(self):
        tables = {"R": (("a", "b"), {(1, 2): 1})}
        turned = ("keep", ("b", "a"), ("call", "x", "b", ("call", "b", "a", ("call", "a", "x", table("n")))))
        self.same(answer(Counts(), ring(1, R, turned), tables), (("a", "b"), {(1, 2): 1, (2, 1): 1}))
        self.same(answer(Counts(), ring(2, R, turned), tables), (("a", "b"), {(1, 2): 2, (2, 1): 1}))

    def test_a_step_that_stands_on_an_outer_rings_name(self):
        tables = {"R": (("a", "b"), {(1, 2): 2})}
        inner = ring(2, table("n"), ("put", table("m"), table("n")), "m")
        # m: n, then n + m + n = 3n, then n + 3n + n = 5n; n: 2, then 2 + 10, then 2 + 60.
        for times, many in ((0, 2), (1, 12), (2, 62), (3, 312)):
            self.same(answer(Counts(), ring(times, R, inner), tables), (("a", "b"), {(1, 2): many}))

    def test_rings_within_starts_and_beside_one_another(self):
        tables = {"R": (("a", "b"), {(1, 2): 1})}
        start = ring(2, R, table("n"))
        self.same(answer(Counts(), ring(1, start, table("n")), tables), (("a", "b"), {(1, 2): 6}))
        self.same(answer(Counts(), ("put", start, ring(4, R, table("n"))), tables), (("a", "b"), {(1, 2): 8}))

    def test_work(self):
        for times in range(9):
            wanted = sum([len(self.paths(k)) * 5 for k in range(times)])
            self.same(work(Counts(), ring(times, G, ON), {"G": EDGES}), wanted)
        start = ("keep", ("x", "y"), ("join", G, ("call", "x", "z", ("call", "y", "w", G))))
        self.same(work(Counts(), ring(0, start, ("put", start, start)), {"G": EDGES}), 25)
        self.same(work(Counts(), ring(3, start, ("put", start, start)), {"G": EDGES}), 25 + 3 * 50)

    def test_work_of_rounds_that_stay_as_they_are(self):
        truths = {"G": (("x", "y"), {(1, 2): True, (2, 3): True, (3, 4): True})}
        # The rounds have 3, 5, 6, 6, .. rows.
        for times, wanted in ((0, 0), (1, 9), (2, 24), (3, 42), (4, 60), (8, 132)):
            self.same(work(Truths(), ring(times, G, ON), truths), wanted)
        for way, marks in WAYS:
            tables = sample_tables(way, marks)
            for times in range(9):
                for question in (ring(times, R, ("keep", ("a", "b"), ("join", R, S))),
                                 ring(times, R, ring(times, R, ("keep", ("a", "b"), ("join", table("n"), S)), "m")),
                                 ring(times, ring(times, R, ("join", table("n"), R)), ("join", table("n"), R))):
                    if times < 4 or way.__class__ in (Truths, Costs, Counts, Rounds):
                        self.same((answer(way, question, tables), work(way, question, tables)),
                                  slowly(way, question, tables))

    def test_a_step_of_no_rounds_is_not_reckoned(self):
        tables = {"R": (("a", "b"), {(1, 2): 1, (3, 4): 1})}
        self.same(answer(Never(), ring(0, R, ("join", R, table("n"))), tables), tables["R"])
        self.same(work(Never(), ring(0, R, ("join", R, table("n"))), tables), 0)

    def test_eight_rounds_six_within_one_another(self):
        tables = {"R": (("a", "b"), {(1, 2): 1})}
        for question, joins in ((R, 0), (("keep", ("a", "b"), ("join", R, R)), 1)):
            for k in range(6):
                question = ring(8, R, question, f"n{k}")
            self.same(answer(Counts(), question, tables), (("a", "b"), {(1, 2): 7}))
            self.same(work(Counts(), question, tables), joins * 8 ** 6)


class TheWhole(unittest.TestCase, Shapes):
    def test_some_questions_in_each_way(self):
        rng = random.Random(29)
        asked = 0
        while asked < 150:
            question, head = some_question(rng, HEADS, 1 + asked % 5)
            if degree(question) > 4:
                continue
            asked += 1
            for way, marks in WAYS:
                tables = sample_tables(way, marks)
                before = copy.deepcopy(tables)
                told = answer(way, question, tables)
                self.same((told, work(way, question, tables)), slowly(way, question, tables), question)
                self.same(told[0], head)
                self.same(tables, before)

    def test_a_question_with_every_word(self):
        inner = ring(2, ("keep", ("b",), S), ("keep", ("b",), ("join", table("m"), ("put", table("n"), R))), "m")
        question = ("keep", ("c", "x"), ("pick", ("or", ("is", "x", 1), ("same", "c", "b")), ("call", "a", "x", (
            "join", ring(2, R, ("keep", ("b", "a"), ("join", inner, table("n")))), ("put", S, S)))))
        for way, marks in WAYS:
            if way.__class__ != Sums:
                tables = sample_tables(way, marks)
                self.same((answer(way, question, tables), work(way, question, tables)), slowly(way, question, tables))

    def test_sums_over_named_rows(self):
        store = sample_store()
        told = answer(Sums(), ("keep", ("a",), ("join", R, S)), store.named())
        self.same(told[1][(2,)], ((("r3", "s1"), 1), (("r3", "s3"), 1)))
        self.same(answer(Sums(), ("join", Z, ("keep", (), E)), store.named()), ((), {}))
        self.same(answer(Sums(), ("put", Z, Z), store.named()), ((), {(): ((("z1",), 2), (("z2",), 2))}))

    def test_tables_without_columns_or_rows(self):
        tables = {"Y": ((), {(): 2}), "N": ((), {}), "E": (("a",), {})}
        yes, no, none = table("Y"), table("N"), table("E")
        self.same(answer(Counts(), ("join", yes, yes), tables), ((), {(): 4}))
        self.same(answer(Counts(), ("join", yes, no), tables), ((), {}))
        self.same(answer(Counts(), ("put", yes, no), tables), ((), {(): 2}))
        self.same(answer(Counts(), ("put", yes, ("keep", (), none)), tables), ((), {(): 2}))
        self.same(answer(Counts(), ("join", none, yes), tables), (("a",), {}))
        self.same(answer(Counts(), ring(3, yes, ("join", table("n"), yes)), tables), ((), {(): 30}))
        self.same(answer(Counts(), ring(3, none, table("n")), tables), (("a",), {}))
        self.same(work(Counts(), ring(3, yes, ("join", table("n"), yes)), tables), 3)

    def test_what_is_refused_is_refused_ahead_of_all_reckoning(self):
        tables = {"R": (("a", "b"), {(1, 1): 1, (1, 2): 1}), "S": (("b", "c"), {(1, 1): 1}), "Q": (("b", "a"), {})}
        reckon = ("keep", ("a",), ("join", R, S))
        for wrong, error in ((table("N"), NoTable), (("pick", ("is", "z", 1), R), NoColumn), (("put", R, S), NoFit),
                             (("keep", ("a", "a"), R), NoColumn), (("call", "a", "b", R), NoColumn),
                             (("pick", ("is", "z", 1), table("Q")), NoColumn), (ring(0, R, S), NoFit),
                             (ring(1, R, R, "S"), Twice), (ring(0, R, table("N"), "m"), NoTable),
                             (ring(1, R, ring(1, R, R)), Twice), (ring(0, R, ring(0, R, R)), Twice)):
            for ask in (answer, work):
                self.refuses(error, ask, Never(), wrong, tables)
                self.refuses(error, ask, Never(), ("join", reckon, wrong), tables)
                self.refuses(error, ask, Never(), ring(0, reckon, ("keep", ("a",), wrong), "l"), tables)
                self.refuses(error, ask, Never(), ("join", wrong, table("also not there")), tables)

    def test_it_refuses_as_head_of(self):
        rng = random.Random(30)
        tables = sample_tables(Counts(), [1, 2])
        refused = 0
        for k in range(300):
            question, head = some_question(rng, {**HEADS, "N": ("a", "d"), "T": ("c", "a", "b")}, 3)
            try:
                head_of(question, HEADS)
            except ValueError as error:
                refused += 1
                for ask in (answer, work):
                    self.refuses(error.__class__, ask, Never(), question, tables)
        self.assertGreater(refused, 30)

    def test_the_answer_is_the_askers_own(self):
        tables = {"R": (("a", "b"), {(1, 2): 1})}
        before = copy.deepcopy(tables)
        for question in (R, ring(0, R, R), ring(2, R, table("n")), ("pick", IS_A, R), ("put", R, R), ("join", R, R),
                         ("call", "a", "a", R), ("keep", ("a", "b"), R)):
            first = answer(Truths(), question, tables)
            wanted = copy.deepcopy(first)
            first[1].clear()
            self.same(tables, before)
            told = answer(Truths(), question, tables)
            self.same(told, wanted)
            other = copy.deepcopy(tables)
            told = answer(Truths(), question, other)
            other["R"][1].clear()
            other.clear()
            self.same(told, wanted)

    def test_a_hundred_parts_within_one_another(self):
        tables = {"R": (("a", "b"), {(1, 2): 1, (3, 4): 2}), "U": (("a",), {(1,): 1})}
        put = join = pick = R
        for k in range(99):
            put, join, pick = ("put", R, put), ("join", join, table("U")), ("pick", IS_A, pick)
        self.same(answer(Counts(), put, tables), (("a", "b"), {(1, 2): 100, (3, 4): 200}))
        self.same(answer(Counts(), join, tables), (("a", "b"), {(1, 2): 1}))
        self.same(work(Counts(), join, tables), 2 + 98)
        self.same(answer(Counts(), pick, tables), (("a", "b"), {(1, 2): 1}))

    def test_a_thousand_parts(self):
        tables = {"R": (("a", "b"), {(1, 2): 1, (3, 4): 2})}
        parts = [R] * 512
        while len(parts) > 1:
            parts = [("put", parts[k], parts[k + 1]) for k in range(0, len(parts), 2)]
        self.same(answer(Counts(), parts[0], tables), (("a", "b"), {(1, 2): 512, (3, 4): 1024}))

    def test_thousands_of_parts_within_one_another(self):
        tables = {"R": (("a", "b"), {(1, 2): 1, (3, 4): 2})}
        deep = R
        for k in range(3000):
            deep = ("pick", ("not", ("is", "a", 3)), deep) if k % 3 else ("join", R, deep)
        self.same(answer(Truths(), ring(2, deep, deep), {"R": (("a", "b"), {(1, 2): True, (3, 4): True})})[1],
                  {(1, 2): True})
        self.same(work(Counts(), deep, tables), 4 + 999 * 2)

    def test_sixty_rows(self):
        tables = {"R": (("a", "b"), {(k, k % 5): bare(f"r{k}") for k in range(60)}),
                  "S": (("b", "c"), {(k % 5, k): bare(f"s{k}") for k in range(60)})}
        told = answer(Sums(), ("keep", ("b",), ("join", R, S)), tables)
        self.same(sorted(told[1]), [(k,) for k in range(5)])
        self.same([len(told[1][(k,)]) for k in range(5)], [144] * 5)
        self.same(len(answer(Sums(), ("join", R, S), tables)[1]), 720)
        self.same(work(Sums(), ("join", R, S), tables), 3600)

    def test_who_may_see_and_the_lowest(self):
        tables = {"R": (("a", "b"), {(1, 1): ("p", "q"), (2, 1): ("r",)}), "S": (("b", "c"), {(1, 5): ("q", "r")})}
        self.same(answer(SEERS, ("keep", ("c",), ("join", R, S)), tables), (("c",), {(5,): ("q", "r")}))
        self.same(answer(SEERS, ("pick", IS_A, ("join", R, S)), tables), (("a", "b", "c"), {(1, 1, 5): ("q",)}))
        tables = {"G": (("x", "y"), {(1, 2): (1,), (2, 1): (2,), (2, 3): (5,)})}
        self.same(answer(Lows(3), ring(4, G, ON), tables)[1][(1, 3)], (6, 9))
