import copy
import random
import unittest

from tests.helper import HEADS, WAYS, E, R, S, Shapes, T, Z, more_picks, ring, sample_tables, some_questions, table
from whence.answers import answer, work
from whence.picks import columns_of
from whence.places import heads_at, part_at, places
from whence.questions import head_of
from whence.quick import quick
from whence.ways import Costs, Counts, Rounds, Truths

IS_A, IS_B, IS_C = ("is", "a", 1), ("is", "b", 1), ("is", "c", 2)
A_NOT_B = ("not", ("same", "a", "b"))
A_IS_C, B_OR_C = ("same", "a", "c"), ("or", IS_B, IS_C)
BACK = ("keep", ("b", "a"), R)
N = table("n")
STEP = ("keep", ("b", "a"), ("join", N, S))
JOIN = ("join", R, S)


def pick(question, *tests):
    """The last one is done first."""
    for test in reversed(tests):
        question = ("pick", test, question)
    return question


def faults(question, heads):
    """The places of the picks that point 39 rules out."""
    told = []
    for place in places(question):
        part = part_at(question, place)
        if part[0] == "pick":
            below = part[2]
            while below[0] == "pick":
                below = below[2]
            if part[1][0] == "and" or stands_badly(part[1], below, heads_at(question, place, heads)):
                told.append(place)
    return told


def stands_badly(test, below, heads):
    if below[0] == "join":
        return any([set(columns_of(test)) <= set(head_of(side, heads)) for side in below[1:]])
    return below[0] in ("put", "keep", "call")


# Questions with picks that may not stay as they are, and the places of these picks.
BAD = [
    (pick(R, ("and", IS_A, IS_B)), [()]),
    (pick(R, IS_A, ("and", ("and", IS_A, IS_B), ("and", A_NOT_B, ("or", IS_A, IS_B)))), [(0,)]),
    (pick(("put", R, BACK), IS_A), [()]),
    (pick(("put", R, BACK), IS_A, A_NOT_B, ("or", IS_A, IS_B)), [(), (0,), (0, 0)]),
    (pick(BACK, A_NOT_B), [()]),
    (pick(("keep", ("b",), R), IS_B, IS_B), [(), (0,)]),
    (pick(("call", "a", "x", R), ("same", "x", "b"), ("is", "b", 1), ("not", ("is", "x", 2))), [(), (0,), (0, 0)]),
    (pick(("call", "a", "a", R), IS_A), [()]),
    (pick(("call", "a", "c", ("call", "c", "d", T)), ("is", "c", 1), ("same", "c", "d")), [(), (0,)]),
    (pick(JOIN, IS_A), [()]),
    (pick(JOIN, IS_C), [()]),
    (pick(JOIN, IS_B), [()]),
    (pick(JOIN, A_IS_C, IS_A, A_IS_C, IS_C), [(0,), (0, 0, 0)]),
    (pick(JOIN, ("and", A_IS_C, ("and", IS_A, B_OR_C))), [()]),
    (pick(("join", JOIN, T), A_IS_C, A_NOT_B, ("or", IS_A, IS_C)), [(), (0,), (0, 0)]),
    (pick(("join", R, ("join", S, T)), ("not", ("and", IS_A, ("or", IS_B, IS_C)))), [()]),
    (pick(("join", R, pick(("put", S, S), B_OR_C)), IS_A), [(), (0, 1)]),
    (pick(("join", pick(JOIN, IS_A), ("call", "a", "x", R)), A_IS_C), [(), (0, 0)]),
    (pick(("join", Z, R), IS_A), [()]),
    (pick(("join", E, ("keep", ("b",), ("put", pick(R, ("and", IS_A, IS_B)), BACK))), IS_B), [(), (0, 1, 0, 0)]),
    (ring(2, pick(BACK, IS_A), pick(N, ("and", IS_A, IS_B))), [(0,), (1,)]),
    (pick(ring(2, pick(JOIN, IS_C), pick(("keep", ("c", "a", "b"), ("join", N, S)), A_IS_C)), ("and", IS_A, IS_B)),
     [(), (0, 0), (0, 1)]),
    (ring(3, R, pick(("join", N, pick(BACK, IS_B)), IS_A)), [(1,), (1, 0, 1)]),
    (ring(1, R, ring(2, pick(("put", N, R), IS_A), pick(("join", N, table("m")), IS_B), "m")), [(1, 0), (1, 1)]),
    (ring(0, R, pick(STEP, IS_A, IS_B)), [(1,), (1, 0)]),
]
# Questions whose picks may all stay.
GOOD = [
    R, JOIN, ring(2, R, STEP), ("keep", (), ("call", "a", "x", ("put", R, BACK))),
    pick(R, IS_A, IS_B, A_NOT_B), pick(R, ("not", ("and", IS_A, IS_B))), pick(R, ("or", ("and", IS_A, IS_B), IS_A)),
    pick(JOIN, A_IS_C), pick(JOIN, A_IS_C, ("or", IS_A, IS_C)), pick(JOIN, ("not", ("and", IS_A, IS_C))),
    pick(ring(2, R, STEP), IS_A, A_NOT_B), ("join", pick(R, IS_A), pick(S, IS_C)),
    ring(1, R, ("put", pick(N, IS_A), pick(R, IS_A))), pick(("join", R, ("keep", ("c",), S)), ("same", "b", "c")),
]


class Quick(unittest.TestCase, Shapes):
    def setUp(self):
        self.tables = [(way, sample_tables(way, marks)) for way, marks in WAYS]
        for way, mark in ((Counts(), 3), (Rounds(2), 1), (Truths(), True), (Costs(), 5)):
            self.tables.append((way, {name: (HEADS[name], {}) for name in HEADS}))
            full = {name: [(a, b)[:len(HEADS[name])] for a in (1, 2, 3) for b in (1, 2, 3)] for name in HEADS}
            self.tables.append((way, {name: (HEADS[name], dict.fromkeys(full[name], mark)) for name in HEADS}))

    def holds(self, question, tables):
        before = copy.deepcopy((question, HEADS))
        told = quick(question, HEADS)
        self.assertEqual((question, HEADS), before)
        self.same(head_of(told, HEADS), head_of(question, HEADS))
        self.assertEqual(faults(told, HEADS), [], told)
        for way, some in tables:
            self.same(answer(way, told, some), answer(way, question, some), question)
            self.assertLessEqual(work(way, told, some), work(way, question, some), question)

    def test_the_look_at_picks_finds_what_may_not_stay(self):
        for question, wanted in BAD:
            self.assertEqual(faults(question, HEADS), wanted, question)
        for question in GOOD:
            self.assertEqual(faults(question, HEADS), [], question)

    def test_each_word_below_picks(self):
        for question, wanted in BAD:
            self.holds(question, self.tables)

    def test_what_may_stay(self):
        for question in GOOD:
            self.holds(question, self.tables)

    def test_many_picks_over_many_words(self):
        rng = random.Random(39)
        for k, question in enumerate(some_questions(39, 250, 5)):
            self.holds(more_picks(rng, question, HEADS), self.tables[k % 4::4])

    def test_fewer_pairs_are_looked_at(self):
        many = {"R": (("a", "b"), {(k, 1): 1 for k in range(20)}), "S": (("b", "c"), {(1, k): 1 for k in range(30)})}
        heads = {name: many[name][0] for name in many}
        for question, wanted in ((pick(JOIN, IS_A), 30), (pick(JOIN, IS_C), 20), (pick(JOIN, IS_A, IS_C), 1),
                                 (pick(JOIN, ("and", IS_A, IS_C)), 1), (pick(JOIN, ("same", "a", "c")), 600),
                                 (pick(("keep", ("a",), ("put", JOIN, JOIN)), IS_A), 60),
                                 (pick(("call", "a", "x", JOIN), ("is", "x", 1)), 30)):
            self.same(work(Counts(), quick(question, heads), many), wanted)
            self.assertGreaterEqual(work(Counts(), question, many), wanted)

    def test_the_heads_of_a_step(self):
        # The ring's name has the start's columns, so its side has all columns of the test.
        question = ring(2, R, ("keep", ("a", "b"), pick(("join", S, N), A_NOT_B)))
        self.assertEqual(faults(question, HEADS), [(1, 0)])
        self.holds(question, self.tables)
        self.same(quick(question, HEADS), ring(2, R, ("keep", ("a", "b"), ("join", S, pick(N, A_NOT_B)))))

    def test_a_pick_over_a_ring_stays_over_it(self):
        # Edges, and from 1 on: the rounds need rows that do not pass.
        edges = {"G": (("x", "y"), {(1, 2): 1, (2, 3): 1, (3, 4): 1})}
        on = ("keep", ("x", "y"), ("join", ("call", "y", "z", N), ("call", "x", "z", table("G"))))
        question = pick(ring(3, table("G"), on), ("is", "y", 4))
        told = quick(question, {"G": ("x", "y")})
        self.same(answer(Counts(), told, edges), (("x", "y"), {(1, 4): 1, (2, 4): 1, (3, 4): 1}))

    def test_handed_in_heads_may_change_behind(self):
        heads = copy.deepcopy(HEADS)
        question = pick(("put", R, BACK), IS_A)
        told = quick(question, heads)
        wanted = copy.deepcopy(told)
        heads.clear()
        self.same(told, wanted)

    def test_great_questions(self):
        # A hundred within one another, each pick with ten tests, and what is told is handed on, whatever its size.
        question = ("join", R, ("call", "b", "c", R))
        tests = [IS_A, IS_B, A_NOT_B, ("is", "c", 2), ("not", IS_B), ("same", "a", "c"), ("or", IS_A, IS_C),
                 ("not", ("is", "a", "1")), ("is", "c", "1"), ("same", "b", "b")]
        both = tests[0]
        for test in tests[1:]:
            both = ("and", both, ("or", test, ("not", test)))
        for k in range(90):
            question = ("pick", both, question)
        for k in range(5):
            question = ("put", question, ("keep", ("a", "b", "c"), question))
        heads, tables = HEADS, sample_tables(Counts(), [1, 2])
        told = quick(question, heads)
        self.same(head_of(told, heads), ("a", "b", "c"))
        self.same(answer(Counts(), told, tables), answer(Counts(), question, tables))
        self.assertLessEqual(work(Counts(), told, tables), work(Counts(), question, tables))

    def test_a_deep_question(self):
        question, wide = R, R
        for k in range(48):
            question = pick(("put", R, ("keep", ("b", "a"), question)), ("not", ("is", "a", k)))
        self.holds(question, self.tables[:3])
        for k in range(7):
            wide = pick(("put", wide, ("call", "a", "a", wide)), ("not", ("is", "b", k)))
        self.holds(wide, self.tables[:3])
