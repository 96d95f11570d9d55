import copy
import random
import unittest

from tests.helper import (HEADS, E, R, S, Shapes, T, Z, replaced_slowly, ring, some_question, table, unrolled_slowly,
                          words_of)
from whence.questions import degree, head_of
from whence.rings import replaced, unrolled

IS_A = ("is", "a", 1)
N, M = table("n"), table("m")


class Unrolled(unittest.TestCase, Shapes):
    def told(self, question, wanted):
        before = copy.deepcopy(question)
        self.same(unrolled(question), wanted)
        self.same(question, before)

    def test_without_rings_it_stays(self):
        for question in (R, ("pick", IS_A, R), ("keep", (), R), ("call", "a", "x", R), ("join", R, S), ("put", R, R),
                         ("keep", ("c",), ("join", ("pick", IS_A, R), ("put", S, ("call", "b", "b", S))))):
            self.told(question, question)

    def test_no_rounds(self):
        self.told(ring(0, R, N), R)
        self.told(ring(0, R, ("join", N, S)), R)
        self.told(ring(0, ring(0, R, N), N), R)

    def test_one_round(self):
        self.told(ring(1, R, N), ("put", R, R))
        self.told(ring(1, R, ("pick", IS_A, N)), ("put", R, ("pick", IS_A, R)))
        self.told(ring(1, R, ("join", N, ("join", S, N))), ("put", R, ("join", R, ("join", S, R))))

    def test_more_rounds(self):
        self.told(ring(2, R, N), ("put", R, ("put", R, R)))
        self.told(ring(3, R, ("pick", IS_A, N)),
                  ("put", R, ("pick", IS_A, ("put", R, ("pick", IS_A, ("put", R, ("pick", IS_A, R)))))))
        two = ("put", R, ("join", R, R))
        self.told(ring(2, R, ("join", N, N)), ("put", R, ("join", two, two)))

    def test_a_step_in_which_the_name_does_not_stand(self):
        for times in range(1, 9):
            self.told(ring(times, R, ("keep", ("b", "a"), R)), ("put", R, ("keep", ("b", "a"), R)))

    def test_a_ring_within_words(self):
        self.told(("keep", ("a",), ("join", ring(1, R, N), ("pick", ("is", "b", 1), ring(0, S, N)))),
                  ("keep", ("a",), ("join", ("put", R, R), ("pick", ("is", "b", 1), S))))

    def test_a_ring_within_a_start(self):
        self.told(ring(1, ring(1, R, ("pick", IS_A, N)), N),
                  ("put", ("put", R, ("pick", IS_A, R)), ("put", R, ("pick", IS_A, R))))

    def test_a_ring_within_a_step(self):
        self.told(ring(1, R, ring(1, T, ("pick", IS_A, M), "m")), ("put", R, ("put", T, ("pick", IS_A, T))))
        one = ("put", R, ("put", R, ("join", R, R)))
        self.told(ring(2, R, ring(1, N, ("join", M, N), "m")), ("put", R, ("put", one, ("join", one, one))))
        self.told(ring(1, R, ring(0, N, ("join", M, M), "m")), ("put", R, R))
        self.told(ring(0, R, ring(2, N, ("join", M, M), "m")), R)

    def test_some_questions(self):
        rng = random.Random(34)
        for k in range(200):
            question, head = some_question(rng, HEADS, 1 + k % 5)
            self.told(question, unrolled_slowly(question))
            self.assertNotIn("ring", words_of(unrolled(question)))
            self.same(head_of(unrolled(question), HEADS), head)
            self.same(degree(unrolled(question)), degree(question))

    def test_steps_of_no_rounds_that_would_be_great(self):
        great = N
        for k in range(5):
            great = ring(8, great, ("join", table(f"m{k}"), ("join", great, great)), f"m{k}")
        self.same(unrolled(ring(0, R, great)), R)

    def test_a_hundred_parts_within_one_another(self):
        deep = wanted = R
        for k in range(99):
            deep, wanted = ("put", deep, R), ("put", wanted, R)
        self.told(deep, wanted)
        step = N
        for k in range(10):
            step = ("pick", IS_A, step)
        told = unrolled(ring(8, R, step))
        self.same(words_of(told).count("put"), 8)
        self.same(words_of(told).count("pick"), 80)
        self.same(told, unrolled_slowly(ring(8, R, step)))

    def test_eight_rounds_six_within_one_another(self):
        question = R
        for k in range(6):
            question = ring(8, R, question, f"n{k}")
        wanted = R
        for k in range(6):
            wanted = ("put", R, wanted)
        self.told(question, wanted)


class Replaced(unittest.TestCase, Shapes):
    def told(self, question, name, other, wanted):
        before = copy.deepcopy((question, other))
        self.same(replaced(question, name, other), wanted)
        self.same((question, other), before)

    def test_ordinary(self):
        self.told(R, "R", S, S)
        self.told(R, "S", T, R)
        self.told(("join", R, ("put", S, R)), "R", ("pick", IS_A, T),
                  ("join", ("pick", IS_A, T), ("put", S, ("pick", IS_A, T))))
        self.told(("keep", ("a",), ("call", "a", "x", ("pick", IS_A, R))), "R", Z,
                  ("keep", ("a",), ("call", "a", "x", ("pick", IS_A, Z))))

    def test_the_other_is_put_there_as_it_is(self):
        self.told(("join", R, S), "R", ("join", R, S), ("join", ("join", R, S), S))
        self.told(R, "R", R, R)

    def test_another_one_with_rings(self):
        self.told(("join", N, S), "n", ring(2, R, N), ("join", ring(2, R, N), S))
        self.told(("put", N, N), "n", ring(0, R, ("join", N, N)),
                  ("put", ring(0, R, ("join", N, N)), ring(0, R, ("join", N, N))))

    def test_only_tables_are_replaced(self):
        self.told(("pick", ("is", "R", "R"), ("keep", ("R",), ("call", "table", "R", E))), "R", S,
                  ("pick", ("is", "R", "R"), ("keep", ("R",), ("call", "table", "R", E))))
        self.told(("keep", ("table", "R"), ("table", "Q")), "R", S, ("keep", ("table", "R"), ("table", "Q")))

    def test_some_questions(self):
        rng = random.Random(35)
        for k in range(100):
            question = unrolled_slowly(some_question(rng, HEADS, 1 + k % 4)[0])
            other = some_question(rng, HEADS, 2)[0]
            for name in HEADS:
                self.told(question, name, other, replaced_slowly(question, name, other))
