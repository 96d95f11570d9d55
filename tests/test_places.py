import copy
import random
import unittest

from tests.helper import FIRST, HEADS, HUGE, E, R, S, Shapes, T, some_question
from whence.errors import NoPlace
from whence.places import heads_at, part_at, places, with_part
from whence.questions import head_of

IS_A = ("is", "a", 1)
N, M = ("table", "n"), ("table", "m")
INNER = ("ring", "m", 2, ("keep", ("b",), N), ("keep", ("b",), ("join", M, N)))
EVERY = ("keep", ("c", "x"), ("join", ("pick", ("is", "x", 1), ("call", "a", "x", ("put", R, R))), (
    "join", S, ("ring", "n", 0, ("call", "a", "x", R), ("keep", ("b", "x"), ("join", INNER, N))))))
PLACES = [
    (), (0,), (0, 0), (0, 0, 0), (0, 0, 0, 0), (0, 0, 0, 0, 0), (0, 0, 0, 0, 1), (0, 1), (0, 1, 0), (0, 1, 1),
    (0, 1, 1, 0), (0, 1, 1, 0, 0), (0, 1, 1, 1), (0, 1, 1, 1, 0), (0, 1, 1, 1, 0, 0), (0, 1, 1, 1, 0, 0, 0),
    (0, 1, 1, 1, 0, 0, 0, 0), (0, 1, 1, 1, 0, 0, 1), (0, 1, 1, 1, 0, 0, 1, 0), (0, 1, 1, 1, 0, 0, 1, 0, 0),
    (0, 1, 1, 1, 0, 0, 1, 0, 1), (0, 1, 1, 1, 0, 1),
]
NONE = [(1,), (-1,), (0, 2), (0, -1), (0, 0, 1), (0, 1, 0, 0), (0, 1, 1, 2), (0, 1, 1, -1), (0, 1, 1, -2), (2, 0),
        (-1, 0), (0, 0, 0, 0, 0, 0), (0, 1, 1, 0, 0, 0), (HUGE,), (-HUGE,), (0, HUGE), (0, 1, 1, 1, 0, 0, 1, 0, 2), (3, 4, 5)]


def parts_slowly(question, place=()):
    told = [(place, question)]
    for k, part in enumerate(question[FIRST.get(question[0], 2):]):
        told.extend(parts_slowly(part, place + (k,)))
    return told


class Places(unittest.TestCase, Shapes):
    def test_a_question_with_every_word(self):
        self.same(head_of(EVERY, HEADS), ("c", "x"))
        before = copy.deepcopy(EVERY)
        self.same(places(EVERY), PLACES)
        self.same(EVERY, before)

    def test_each_word(self):
        self.same(places(R), [()])
        for question in (("pick", IS_A, R), ("keep", ("a", "b"), R), ("keep", (), R), ("call", "a", "b", R)):
            self.same(places(question), [(), (0,)])
        for question in (("join", R, S), ("put", R, R), ("ring", "n", 0, R, N), ("ring", "n", 8, R, N)):
            self.same(places(question), [(), (0,), (1,)])

    def test_some_questions(self):
        rng = random.Random(35)
        for k in range(100):
            question = some_question(rng, HEADS, 1 + k % 5)[0]
            self.same(places(question), [place for place, part in parts_slowly(question)])

    def test_a_told_list_is_the_askers_own(self):
        places(R).append((7,))
        self.same(places(R), [()])

    def test_a_hundred_parts_within_one_another(self):
        deep = R
        for k in range(99):
            deep = ("put", R, deep)
        self.same(len(places(deep)), 199)
        self.same(places(deep)[-1], (1,) * 99)
        self.same(part_at(deep, (1,) * 99), R)
        self.same(part_at(with_part(deep, (1,) * 99, S), (1,) * 99), S)
        self.same(heads_at(deep, (1,) * 99, HEADS), HEADS)
        self.refuses(NoPlace, part_at, deep, (1,) * 100)


class PartAt(unittest.TestCase, Shapes):
    def test_a_question_with_every_word(self):
        for place, part in (((), EVERY), ((0, 1, 0), S), ((0, 1, 1, 0), ("call", "a", "x", R)),
                            ((0, 1, 1, 1, 0, 0), INNER), ((0, 1, 1, 1, 0, 0, 1), INNER[4]), ((0, 0, 0, 0, 1), R),
                            ((0, 1, 1, 1, 0, 0, 1, 0, 0), M)):
            self.same(part_at(EVERY, place), part)

    def test_some_questions(self):
        rng = random.Random(36)
        for k in range(100):
            question = some_question(rng, HEADS, 1 + k % 5)[0]
            for place, part in parts_slowly(question):
                self.same(part_at(question, place), part)

    def test_no_place(self):
        for place in NONE:
            self.refuses(NoPlace, part_at, EVERY, place)
        self.refuses(NoPlace, part_at, R, (0,))


class WithPart(unittest.TestCase, Shapes):
    def test_a_question_with_every_word(self):
        before = copy.deepcopy(EVERY)
        self.same(with_part(EVERY, (), S), S)
        self.same(with_part(EVERY, (0,), S), ("keep", ("c", "x"), S))
        self.same(with_part(("join", R, S), (0,), T), ("join", T, S))
        self.same(with_part(("join", R, S), (1,), T), ("join", R, T))
        self.same(with_part(("ring", "n", 2, R, N), (0,), T), ("ring", "n", 2, T, N))
        self.same(with_part(("ring", "n", 2, R, N), (1,), T), ("ring", "n", 2, R, T))
        self.same(with_part(("call", "a", "b", ("pick", IS_A, R)), (0, 0), T), ("call", "a", "b", ("pick", IS_A, T)))
        self.same(EVERY, before)

    def test_another_part_at_each_place_and_all_else_as_it_was(self):
        rng = random.Random(37)
        other = ("join", E, ("table", "elsewhere"))
        for question in [EVERY] + [some_question(rng, HEADS, 1 + k % 5)[0] for k in range(60)]:
            for place, part in parts_slowly(question):
                told = with_part(question, place, other)
                self.same(part_at(told, place), other)
                self.same(with_part(told, place, part), question)
                self.same(with_part(question, place, part), question)
                for beside, there in parts_slowly(question):
                    shorter = min(len(place), len(beside))
                    if place[:shorter] != beside[:shorter]:
                        self.same(part_at(told, beside), there)

    def test_no_place(self):
        for place in NONE:
            self.refuses(NoPlace, with_part, EVERY, place, R)
        self.refuses(NoPlace, with_part, R, (0,), S)


class HeadsAt(unittest.TestCase, Shapes):
    def test_outside_of_steps_they_are_those_handed_in(self):
        heads = dict(HEADS)
        for place in ((), (0,), (0, 0, 0), (0, 1, 1), (0, 1, 1, 0), (0, 1, 1, 0, 0)):
            self.same(heads_at(EVERY, place, heads), HEADS)
        self.same(heads, HEADS)

    def test_within_a_step(self):
        outer = {**HEADS, "n": ("x", "b")}
        for place in ((0, 1, 1, 1), (0, 1, 1, 1, 0, 1), (0, 1, 1, 1, 0, 0), (0, 1, 1, 1, 0, 0, 0),
                      (0, 1, 1, 1, 0, 0, 0, 0)):
            self.same(heads_at(EVERY, place, HEADS), outer)
        for place in ((0, 1, 1, 1, 0, 0, 1), (0, 1, 1, 1, 0, 0, 1, 0), (0, 1, 1, 1, 0, 0, 1, 0, 1)):
            self.same(heads_at(EVERY, place, HEADS), {**outer, "m": ("b",)})

    def test_a_ring_within_a_start(self):
        question = ("ring", "n", 1, ("ring", "n", 1, R, ("keep", ("b", "a"), N)), ("keep", ("b", "a"), N))
        self.same(heads_at(question, (0,), HEADS), HEADS)
        self.same(heads_at(question, (0, 0), HEADS), HEADS)
        self.same(heads_at(question, (0, 1, 0), HEADS), {**HEADS, "n": ("a", "b")})
        self.same(heads_at(question, (1, 0), HEADS), {**HEADS, "n": ("a", "b")})

    def test_the_part_there_has_its_head_by_them(self):
        rng = random.Random(38)
        for k in range(150):
            question = some_question(rng, HEADS, 1 + k % 5)[0]
            for place, part in parts_slowly(question):
                head_of(part, heads_at(question, place, HEADS))

    def test_a_told_dict_is_the_askers_own(self):
        heads = dict(HEADS)
        for place in ((), (1,)):
            told = heads_at(("ring", "n", 1, R, N), place, heads)
            wanted = dict(told)
            told.clear()
            self.same(heads, HEADS)
            told = heads_at(("ring", "n", 1, R, N), place, heads)
            self.same(told, wanted)
        heads.clear()
        self.same(told, wanted)

    def test_no_place(self):
        for place in NONE:
            self.refuses(NoPlace, heads_at, EVERY, place, HEADS)
        self.refuses(NoPlace, heads_at, R, (0,), HEADS)
