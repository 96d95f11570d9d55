import copy
import random
import unittest

from tests.helper import FIRST, HEADS, E, R, S, Shapes, T, Z, ring, some_question, table, unrolled_slowly
from whence.errors import NoColumn, NoFit, NoTable, Twice
from whence.questions import degree, head_of, tables_of

IS_A = ("is", "a", 1)
# A question with each refusal, and the refusal.
WRONG = [
    (("table", "N"), NoTable),
    (("pick", ("is", "z", 1), R), NoColumn),
    (("keep", ("a", "a"), R), NoColumn),
    (("call", "a", "b", R), NoColumn),
    (("put", R, S), NoFit),
    (("ring", "R", 1, R, R), Twice),
    (("ring", "n", 0, R, S), NoFit),
]


def degree_slowly(question):
    below = [degree_slowly(part) for part in question[FIRST.get(question[0], 2):]]
    if question[0] == "join":
        return sum(below)
    return max(below, default=1)


class HeadOf(unittest.TestCase, Shapes):
    def told(self, question, wanted):
        heads = dict(HEADS)
        self.same(head_of(question, heads), wanted)
        self.same(heads, HEADS)

    def test_each_word(self):
        self.told(R, ("a", "b"))
        self.told(Z, ())
        self.told(("pick", IS_A, R), ("a", "b"))
        self.told(("keep", ("b",), R), ("b",))
        self.told(("keep", ("b", "a"), R), ("b", "a"))
        self.told(("keep", (), R), ())
        self.told(("call", "a", "n", R), ("n", "b"))
        self.told(("call", "b", "b", R), ("a", "b"))
        self.told(("join", R, S), ("a", "b", "c"))
        self.told(("join", S, R), ("b", "c", "a"))
        self.told(("join", Z, T), ("c", "a"))
        self.told(("put", R, ("keep", ("b", "a"), R)), ("a", "b"))
        self.told(("put", ("keep", ("b", "a"), R), R), ("b", "a"))
        self.told(ring(3, R, ("keep", ("b", "a"), table("n"))), ("a", "b"))

    def test_words_within_words(self):
        self.told(("keep", ("c", "x"), ("join", ("call", "a", "x", R), ("pick", ("same", "b", "c"), S))), ("c", "x"))
        self.told(("pick", ("is", "x", 1), ("call", "a", "x", R)), ("x", "b"))
        self.told(("call", "x", "a", ("call", "a", "x", R)), ("a", "b"))

    def test_in_a_step_the_name_has_the_starts_head(self):
        start = ("call", "a", "x", R)
        self.told(ring(1, start, table("n")), ("x", "b"))
        self.told(ring(1, start, ("pick", ("is", "x", 1), table("n"))), ("x", "b"))
        self.told(ring(1, start, ("keep", ("x", "b"), ("join", table("n"), S))), ("x", "b"))
        self.told(ring(1, start, start), ("x", "b"))

    def test_rings_within_rings(self):
        inner = ring(1, ("keep", ("b",), table("n")), ("keep", ("b",), ("join", table("m"), table("n"))), "m")
        self.told(ring(2, R, ("keep", ("b", "a"), ("join", inner, table("n")))), ("a", "b"))
        self.told(ring(2, ring(1, R, table("n")), table("n")), ("a", "b"))
        self.told(("join", ring(1, R, table("n")), ring(1, S, table("n"))), ("a", "b", "c"))
        self.told(ring(2, R, ring(1, table("n"), ring(1, table("m"), ("put", table("l"), table("n")), "l"), "m")),
                  ("a", "b"))

    def test_refusals(self):
        for question, error in WRONG:
            self.refuses(error, head_of, question, dict(HEADS))

    def test_a_table_that_is_not_there(self):
        for name in ("r", "", "a", "n"):
            self.refuses(NoTable, head_of, table(name), dict(HEADS))
        self.refuses(NoTable, head_of, R, {})

    def test_a_rings_name_is_no_table_but_in_its_step(self):
        self.refuses(NoTable, head_of, ring(2, table("n"), R), dict(HEADS))
        self.refuses(NoTable, head_of, ("join", ring(2, R, table("n")), table("n")), dict(HEADS))
        self.refuses(NoTable, head_of, ("join", table("n"), ring(2, R, table("n"))), dict(HEADS))
        self.refuses(NoTable, head_of, ring(1, R, ("join", ring(1, R, R, "m"), table("m"))), dict(HEADS))

    def test_columns_that_are_not_there(self):
        for question in (("pick", ("and", IS_A, ("is", "c", 1)), R), ("pick", ("same", "a", "c"), R),
                         ("pick", IS_A, Z), ("keep", ("a", "c"), R), ("keep", ("a", "a"), R), ("keep", ("a",), Z),
                         ("call", "c", "d", R), ("call", "a", "b", R), ("call", "c", "c", R),
                         ("pick", IS_A, ("call", "a", "x", R)), ("keep", ("a",), ("keep", ("b",), R)),
                         ring(1, E, ("pick", IS_A, table("n")))):
            self.refuses(NoColumn, head_of, question, dict(HEADS))

    def test_what_does_not_fit(self):
        for one, other in ((R, S), (R, E), (E, R), (R, Z), (R, ("join", R, S)), (R, ("call", "a", "x", R))):
            self.refuses(NoFit, head_of, ("put", one, other), dict(HEADS))
            for times in (0, 1, 8):
                self.refuses(NoFit, head_of, ring(times, one, other), dict(HEADS))
        self.refuses(NoFit, head_of, ring(0, R, ("join", table("n"), S)), dict(HEADS))

    def test_a_ring_called_like_a_table_or_a_ring_around_it(self):
        for times in (0, 1, 8):
            self.refuses(Twice, head_of, ring(times, R, R, "R"), dict(HEADS))
            self.refuses(Twice, head_of, ring(times, R, R, "Z"), dict(HEADS))
            self.refuses(Twice, head_of, ring(1, R, ring(times, R, R)), dict(HEADS))
            self.refuses(Twice, head_of, ring(0, R, ring(times, R, R)), dict(HEADS))
            self.refuses(Twice, head_of, ring(1, R, ring(1, ring(times, R, R), R, "m")), dict(HEADS))
            self.refuses(Twice, head_of, ring(1, R, ring(1, R, ring(times, R, R), "m")), dict(HEADS))
        self.same(head_of(ring(1, R, R, "S"), {"R": ("a",)}), ("a",))

    def test_the_parts_from_the_left_each_whole(self):
        for one, error in WRONG:
            for other, later in WRONG:
                for word in ("join", "put"):
                    self.refuses(error, head_of, (word, one, other), dict(HEADS))
                    self.refuses(error, head_of, (word, ("keep", ("z",), (word, R, one)), other), dict(HEADS))
                    self.refuses(later, head_of, (word, R, other), dict(HEADS))
                for times in (0, 2):
                    self.refuses(error, head_of, ring(times, one, other, "m"), dict(HEADS))
                    self.refuses(later, head_of, ring(times, R, other, "m"), dict(HEADS))

    def test_the_parts_ahead_of_the_word_itself(self):
        for one, error in WRONG:
            for question in (("pick", ("is", "z", 1), one), ("keep", ("z",), one), ("keep", ("a", "a"), one),
                             ("call", "z", "y", one), ("put", S, one), ("put", one, S), ring(0, S, one, "m"),
                             ring(2, one, S, "m")):
                self.refuses(error, head_of, question, dict(HEADS))

    def test_a_rings_twice_ahead_of_its_parts(self):
        for one, error in WRONG:
            for times in (0, 2):
                self.refuses(Twice, head_of, ring(times, one, R, "T"), dict(HEADS))
                self.refuses(Twice, head_of, ring(times, R, one, "T"), dict(HEADS))
                self.refuses(Twice, head_of, ring(1, R, ring(times, one, one)), dict(HEADS))
            self.refuses(error, head_of, ("join", one, ring(1, R, R, "T")), dict(HEADS))
            self.refuses(Twice, head_of, ("join", ring(1, R, R, "T"), one), dict(HEADS))

    def test_a_refusal_changes_nothing(self):
        heads = dict(HEADS)
        for question, error in WRONG:
            self.refuses(error, head_of, ring(1, R, question, "m"), heads)
            self.same(head_of(ring(1, R, table("m"), "m"), heads), ("a", "b"))

    def test_what_comes_later_to_the_heads(self):
        heads = dict(HEADS)
        told = head_of(ring(1, R, table("n")), heads)
        heads.clear()
        self.same(told, ("a", "b"))
        heads["R"] = ("q",)
        self.same(head_of(ring(1, R, table("n")), heads), ("q",))

    def test_some_questions(self):
        rng = random.Random(28)
        for k in range(300):
            question, head = some_question(rng, HEADS, 1 + k % 5)
            self.told(question, head)

    def test_a_hundred_parts_within_one_another(self):
        left = right = pick = R
        for k in range(99):
            left, right, pick = ("put", left, R), ("join", R, right), ("pick", IS_A, pick)
        for question in (left, right, pick):
            self.told(question, ("a", "b"))
        for k in range(3000):
            pick = ("pick", IS_A, pick)
        self.told(pick, ("a", "b"))


class TablesOf(unittest.TestCase, Shapes):
    def told(self, question, wanted):
        before = copy.deepcopy(question)
        self.same(tables_of(question), wanted)
        self.same(question, before)

    def test_sorted_each_once(self):
        self.told(R, ["R"])
        self.told(("join", S, R), ["R", "S"])
        self.told(("join", ("put", R, R), ("join", S, R)), ["R", "S"])
        self.told(("keep", ("a",), ("call", "a", "x", ("pick", IS_A, T))), ["T"])

    def test_names_of_columns_and_values_are_none(self):
        self.told(("pick", ("is", "table", "S"), ("keep", ("table", "S"), ("call", "T", "table", R))), ["R"])

    def test_a_rings_name_is_none(self):
        self.told(ring(1, R, table("n")), ["R"])
        self.told(ring(8, S, ("join", table("n"), ("put", T, R))), ["R", "S", "T"])
        self.told(ring(1, R, ring(1, table("n"), ("join", table("n"), ("join", table("m"), S)), "m")), ["R", "S"])
        self.told(("join", ring(1, R, table("n")), ring(1, ring(2, S, table("n")), T)), ["R", "S", "T"])

    def test_a_step_in_which_the_name_does_not_stand(self):
        self.told(ring(2, R, S), ["R", "S"])

    def test_steps_of_no_rounds_count(self):
        self.told(ring(0, R, ("join", table("n"), S)), ["R", "S"])
        self.told(ring(0, R, ring(0, table("n"), ("put", table("m"), T), "m")), ["R", "T"])

    def test_a_told_list_is_the_askers_own(self):
        tables_of(R).append("x")
        self.told(R, ["R"])

    def test_a_hundred_parts_within_one_another(self):
        deep = R
        for k in range(99):
            deep = ("join", ("table", f"t{k % 7}"), deep)
        self.told(deep, ["R", "t0", "t1", "t2", "t3", "t4", "t5", "t6"])


class Degree(unittest.TestCase, Shapes):
    def test_each_word(self):
        self.same(degree(R), 1)
        self.same(degree(("pick", IS_A, R)), 1)
        self.same(degree(("keep", (), ("call", "a", "x", R))), 1)
        self.same(degree(("join", R, R)), 2)
        self.same(degree(("put", R, S)), 1)
        self.same(degree(("put", R, ("join", R, ("join", S, T)))), 3)
        self.same(degree(("put", ("join", R, R), R)), 2)
        self.same(degree(("join", ("put", R, ("join", R, S)), ("join", R, R))), 4)

    def test_rings(self):
        step = ("keep", ("a", "b"), ("join", table("n"), S))
        for times in range(9):
            self.same(degree(ring(times, R, step)), 1 + times)
            self.same(degree(ring(times, ("join", R, S), step)), 2 + times)
            self.same(degree(ring(times, R, table("n"))), 1)
            self.same(degree(ring(times, R, ("join", S, T))), 1 if times == 0 else 2)
            self.same(degree(ring(times, ("join", R, ("join", S, T)), R)), 3)
        for times in range(5):
            self.same(degree(ring(times, R, ("join", table("n"), table("n")))), (1, 2, 4, 8, 16)[times])

    def test_rings_within_rings(self):
        inner = ring(2, table("n"), ("join", table("m"), S), "m")
        self.same(degree(ring(3, R, inner)), 7)
        self.same(degree(ring(3, ring(2, R, ("join", table("n"), S)), ("join", table("n"), S))), 6)
        self.same(degree(ring(3, R, ring(2, S, ("join", table("m"), table("n")), "m"))), 15)

    def test_steps_of_no_rounds_do_not_count(self):
        self.same(degree(ring(0, R, ("join", table("n"), ("join", S, T)))), 1)
        self.same(degree(ring(3, R, ring(0, table("n"), ("join", table("m"), table("n")), "m"))), 1)
        self.same(degree(ring(2, R, ("join", S, ring(0, R, table("n"), "m")))), 2)

    def test_the_unrolled_questions(self):
        rng = random.Random(31)
        for k in range(200):
            question, head = some_question(rng, HEADS, 1 + k % 5)
            self.same(degree(question), degree_slowly(unrolled_slowly(question)), question)

    def test_a_hundred_parts_within_one_another(self):
        deep = ("join", R, R)
        for k in range(98):
            deep = ("put", R, deep) if k % 2 else ("pick", IS_A, deep)
        self.same(degree(deep), 2)

    def test_many_rounds_within_one_another(self):
        question = table("n5")
        for k in range(5, -1, -1):
            question = ring(8, R, question, f"n{k}")
        self.same(degree(question), 1)
