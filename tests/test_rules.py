import copy
import random
import unittest

from tests.helper import (HEADS, WAYS, E, R, S, Shapes, T, Z, ring, sample_store, sample_tables, some_question,
                          words_of)
from whence.answers import answer
from whence.errors import NoPlace, NoRule
from whence.places import heads_at, part_at, places
from whence.questions import degree, head_of
from whence.rings import unrolled
from whence.rules import RULES, turned, turned_at
from whence.sums import Sums
from whence.ways import Counts

WORDS = ("part pick", "swap picks", "pick put", "pick left", "pick right", "pick keep", "pick call", "keep keep",
         "keep put", "keep join", "share left", "share right", "lean join", "swap join", "lean put", "swap put",
         "one round")
IS_A, IS_B, IS_C = ("is", "a", 1), ("is", "b", 1), ("is", "c", 2)
A_NOT_B = ("not", ("same", "a", "b"))
BACK = ("keep", ("b", "a"), R)
N = ("table", "n")
STEP = ("keep", ("b", "a"), ("join", N, S))


# For each rule a question of its form, and what it is turned to.
FORMS = [
    ("part pick", ("pick", ("and", IS_A, A_NOT_B), R), ("pick", IS_A, ("pick", A_NOT_B, R))),
    ("part pick", ("pick", ("and", ("and", IS_A, IS_B), A_NOT_B), R),
     ("pick", ("and", IS_A, IS_B), ("pick", A_NOT_B, R))),
    ("swap picks", ("pick", IS_A, ("pick", A_NOT_B, R)), ("pick", A_NOT_B, ("pick", IS_A, R))),
    ("pick put", ("pick", A_NOT_B, ("put", R, BACK)), ("put", ("pick", A_NOT_B, R), ("pick", A_NOT_B, BACK))),
    ("pick left", ("pick", A_NOT_B, ("join", R, S)), ("join", ("pick", A_NOT_B, R), S)),
    ("pick left", ("pick", IS_B, ("join", R, S)), ("join", ("pick", IS_B, R), S)),
    ("pick right", ("pick", ("same", "b", "c"), ("join", R, S)), ("join", R, ("pick", ("same", "b", "c"), S))),
    ("pick right", ("pick", IS_B, ("join", R, S)), ("join", R, ("pick", IS_B, S))),
    ("pick keep", ("pick", IS_B, ("keep", ("b",), R)), ("keep", ("b",), ("pick", IS_B, R))),
    ("pick call", ("pick", ("and", ("is", "x", 1), ("not", ("same", "b", "x"))), ("call", "a", "x", R)),
     ("call", "a", "x", ("pick", ("and", IS_A, ("not", ("same", "b", "a"))), R))),
    ("pick call", ("pick", IS_A, ("call", "b", "b", R)), ("call", "b", "b", ("pick", IS_A, R))),
    ("keep keep", ("keep", ("a",), ("keep", ("b", "a"), R)), ("keep", ("a",), R)),
    ("keep put", ("keep", ("b",), ("put", R, BACK)), ("put", ("keep", ("b",), R), ("keep", ("b",), BACK))),
    ("keep join", ("keep", ("c",), ("join", R, S)),
     ("keep", ("c",), ("join", ("keep", ("b",), R), ("keep", ("b", "c"), S)))),
    ("keep join", ("keep", ("b", "a"), ("join", R, S)),
     ("keep", ("b", "a"), ("join", ("keep", ("a", "b"), R), ("keep", ("b",), S)))),
    ("keep join", ("keep", ("b",), ("join", R, BACK)),
     ("keep", ("b",), ("join", ("keep", ("a", "b"), R), ("keep", ("b", "a"), BACK)))),
    ("keep join", ("keep", (), ("join", Z, S)), ("keep", (), ("join", ("keep", (), Z), ("keep", (), S)))),
    ("share left", ("join", ("put", R, BACK), S), ("put", ("join", R, S), ("join", BACK, S))),
    ("share right", ("join", S, ("put", BACK, R)), ("put", ("join", S, BACK), ("join", S, R))),
    ("lean join", ("join", ("join", R, S), T), ("join", R, ("join", S, T))),
    ("swap join", ("join", R, S), ("keep", ("a", "b", "c"), ("join", S, R))),
    ("swap join", ("join", R, BACK), ("keep", ("a", "b"), ("join", BACK, R))),
    ("lean put", ("put", ("put", R, BACK), R), ("put", R, ("put", BACK, R))),
    ("swap put", ("put", R, BACK), ("keep", ("a", "b"), ("put", BACK, R))),
    ("swap put", ("put", BACK, R), ("keep", ("b", "a"), ("put", R, BACK))),
    ("one round", ring(0, R, STEP), R),
    ("one round", ring(0, R, ring(1, N, STEP, "m")), R),
    ("one round", ring(1, R, STEP), ("put", R, ("keep", ("b", "a"), ("join", ring(0, R, STEP), S)))),
    ("one round", ring(8, R, ("join", N, N)),
     ("put", R, ("join", ring(7, R, ("join", N, N)), ring(7, R, ("join", N, N))))),
    ("one round", ring(2, ring(1, R, N), BACK), ("put", ring(1, R, N), BACK)),
]
# The words of the forms: the outer one, and the one that must stand at that place within it.
OUTER = {
    "part pick": ("pick", 1, "and"), "swap picks": ("pick", 2, "pick"), "pick put": ("pick", 2, "put"),
    "pick left": ("pick", 2, "join"), "pick right": ("pick", 2, "join"), "pick keep": ("pick", 2, "keep"),
    "pick call": ("pick", 2, "call"), "keep keep": ("keep", 2, "keep"), "keep put": ("keep", 2, "put"),
    "keep join": ("keep", 2, "join"), "share left": ("join", 1, "put"), "share right": ("join", 2, "put"),
    "lean join": ("join", 1, "join"), "swap join": ("join", 1, None), "lean put": ("put", 1, "put"),
    "swap put": ("put", 1, None), "one round": ("ring", 1, None),
}


def has_words(rule, question):
    word, k, inner = OUTER[rule]
    return question[0] == word and (inner is None or question[k][0] == inner)


class Rules(unittest.TestCase, Shapes):
    def test_the_words_in_their_order(self):
        self.same(RULES, WORDS)
        self.assertEqual(sorted(set([rule for rule, question, wanted in FORMS])), sorted(RULES))

    def test_each_rule_on_its_forms(self):
        for rule, question, wanted in FORMS:
            before, heads = copy.deepcopy(question), dict(HEADS)
            self.same(turned(rule, question, heads), wanted)
            self.same(head_of(wanted, HEADS), head_of(question, HEADS))
            self.same(question, before)
            self.same(heads, HEADS)

    def test_each_rule_on_questions_of_other_forms(self):
        others = [question for rule, question, wanted in FORMS]
        others += [R, ("pick", IS_A, R), ("keep", ("a",), R), ("call", "a", "x", R), ("pick", ("or", IS_A, IS_B), R),
                   ("pick", ("not", ("and", IS_A, IS_B)), R), ("keep", (), ("pick", IS_A, R)),
                   ("call", "a", "x", ("pick", IS_A, R)), ("keep", ("x",), ("call", "a", "x", R)),
                   ("pick", IS_A, ring(1, R, N)), ("keep", ("a",), ring(0, R, N)), ("put", R, ("put", R, R)),
                   ("join", R, ("join", S, T)), ("join", ("keep", ("a",), ("put", R, R)), S)]
        for rule in RULES:
            for question in others:
                if not has_words(rule, question):
                    self.assertIsNone(turned(rule, question, dict(HEADS)), (rule, question))

    def test_pick_left_and_right_by_the_columns_of_the_test(self):
        join = ("join", R, S)
        for test, left, right in ((IS_B, True, True), (IS_A, True, False), (IS_C, False, True),
                                  (("same", "a", "b"), True, False), (("same", "b", "c"), False, True),
                                  (("same", "a", "c"), False, False), (("and", IS_A, IS_C), False, False),
                                  (("or", IS_B, ("not", IS_B)), True, True)):
            question = ("pick", test, join)
            self.same(turned("pick left", question, HEADS), ("join", ("pick", test, R), S) if left else None)
            self.same(turned("pick right", question, HEADS), ("join", R, ("pick", test, S)) if right else None)

    def test_the_heads_that_are_handed_in_count(self):
        question = ("pick", IS_C, ("join", R, S))
        self.assertIsNone(turned("pick left", question, {"R": ("a", "b"), "S": ("b", "c")}))
        self.same(turned("pick left", question, {"R": ("a", "c"), "S": ("b", "c")}), ("join", ("pick", IS_C, R), S))
        self.same(turned("swap put", ("put", R, S), {"R": ("p", "q"), "S": ("q", "p")}),
                  ("keep", ("p", "q"), ("put", S, R)))

    def test_one_round_with_a_ring_in_its_step(self):
        inner = ring(1, N, ("put", N, ("table", "m")), "m")
        for step in (inner, ("pick", IS_A, inner), ("put", R, ("keep", ("a", "b"), ("join", S, inner)))):
            for times in (1, 2, 8):
                self.assertIsNone(turned("one round", ring(times, R, step), HEADS))
            self.same(turned("one round", ring(0, R, step), HEADS), R)
        self.same(turned("one round", ring(2, ring(3, R, N), N), HEADS),
                  ("put", ring(3, R, N), ring(1, ring(3, R, N), N)))

    def test_one_round_by_one_round_is_the_unrolled_question(self):
        question = ring(3, R, STEP)
        while "ring" in words_of(question):
            for place in places(question):
                told = turned_at("one round", question, place, HEADS)
                if told is not None:
                    question = told
                    break
        self.same(question, unrolled(ring(3, R, STEP)))

    def test_a_word_that_is_none_is_refused_ahead_of_all(self):
        for rule in ("", "pick", "part  pick", "Part pick", "part pick ", "one rounds", "quick", "pick_put"):
            for question in (R, ("pick", IS_A, R), ("table", "not there"), ring(1, R, S, "R")):
                self.refuses(NoRule, turned, rule, question, HEADS)
                for place in ((), (0,), (-1,), (7, 7)):
                    self.refuses(NoRule, turned_at, rule, question, place, HEADS)


class At(unittest.TestCase, Shapes):
    QUESTION = ("keep", ("a",), ("join", ring(2, ("pick", IS_A, BACK), ("pick", IS_B, (
        "keep", ("a", "b"), ("join", N, S)))), ("pick", IS_C, S)))

    def test_at_the_whole_question(self):
        for rule, question, wanted in FORMS:
            self.same(turned_at(rule, question, (), HEADS), wanted)

    def test_at_places_within(self):
        for rule, question, wanted in FORMS:
            self.same(turned_at(rule, ("join", R, ("keep", (), question)), (1, 0), HEADS),
                      ("join", R, ("keep", (), wanted)))
            around = ring(2, E, ("join", ("table", "l"), ("keep", (), question)), "l")
            self.same(turned_at(rule, around, (1, 1, 0), HEADS),
                      ring(2, E, ("join", ("table", "l"), ("keep", (), wanted)), "l"))

    def test_with_the_heads_there(self):
        told = turned_at("pick keep", self.QUESTION, (0, 0, 1), HEADS)
        self.same(part_at(told, (0, 0, 1)), ("keep", ("a", "b"), ("pick", IS_B, ("join", N, S))))
        more = turned_at("pick left", told, (0, 0, 1, 0), HEADS)
        self.same(part_at(more, (0, 0, 1)), ("keep", ("a", "b"), ("join", ("pick", IS_B, N), S)))
        swap = turned_at("swap join", more, (0, 0, 1, 0), HEADS)
        self.same(part_at(swap, (0, 0, 1, 0)), ("keep", ("b", "a", "c"), ("join", S, ("pick", IS_B, N))))

    def test_the_form_is_not_there(self):
        self.assertIsNone(turned_at("pick put", self.QUESTION, (0, 0, 1), HEADS))
        self.assertIsNone(turned_at("pick left", self.QUESTION, (0, 1), HEADS))
        self.assertIsNone(turned_at("swap join", self.QUESTION, (), HEADS))

    def test_no_place(self):
        for rule in RULES:
            for place in ((1,), (-1,), (0, 2), (0, 0, -1), (0, 0, 2), (0, 1, 0, 0), (0, 1, 0, -1)):
                self.refuses(NoPlace, turned_at, rule, self.QUESTION, place, HEADS)

    def test_what_is_handed_in_stays(self):
        heads, question = dict(HEADS), copy.deepcopy(self.QUESTION)
        for rule in RULES:
            for place in places(question):
                turned_at(rule, question, place, heads)
        self.same(heads, HEADS)
        self.same(question, self.QUESTION)

    def test_within_a_hundred_parts(self):
        deep = ("join", R, S)
        for k in range(98):
            deep = ("pick", IS_B, deep)
        told = turned_at("swap join", deep, (0,) * 98, HEADS)
        self.same(part_at(told, (0,) * 98), ("keep", ("a", "b", "c"), ("join", S, R)))
        self.same(part_at(turned_at("pick left", deep, (0,) * 97, HEADS), (0,) * 97), ("join", ("pick", IS_B, R), S))


class SameAnswers(unittest.TestCase, Shapes):
    """Point 5: each told rule, at any place, and the unrolling of rings change no mark of the answer, in any way."""

    def answers_are_the_same(self, one, other, ways=WAYS):
        self.same(head_of(other, HEADS), head_of(one, HEADS))
        store = sample_store()
        self.same(answer(Sums(), other, store.named()), answer(Sums(), one, store.named()), (one, other))
        for way, marks in ways:
            tables = sample_tables(way, marks)
            self.same(answer(way, other, tables), answer(way, one, tables), (one, other))

    def test_the_forms(self):
        for rule, question, wanted in FORMS:
            if degree(question) <= 8:
                self.answers_are_the_same(question, turned(rule, question, HEADS))
        for rule, question, wanted in FORMS:
            if degree(question) <= 3:
                step = ("keep", ("b",), ("join", ("table", "l"), ("join", S, ("keep", (), question))))
                around = ring(2, E, step, "l")
                place = (1, 0, 1, 1, 0)
                self.assertEqual(part_at(around, place), question)
                self.answers_are_the_same(around, turned_at(rule, around, place, HEADS), WAYS[:9])

    def test_each_rule_at_any_place_of_some_questions(self):
        rng = random.Random(36)
        turns = dict([(rule, 0) for rule in RULES])
        within = dict([(rule, 0) for rule in RULES])
        asked = 0
        while asked < 250:
            question = some_question(rng, HEADS, 1 + asked % 5)[0]
            if degree(question) > 3:
                continue
            asked += 1
            for place in places(question):
                for rule in RULES:
                    told = turned_at(rule, question, place, HEADS)
                    part = part_at(question, place)
                    there = heads_at(question, place, HEADS)
                    self.assertEqual(turned(rule, part, there), None if told is None else part_at(told, place))
                    if told is not None:
                        turns[rule] += 1
                        within[rule] += len(there) > len(HEADS)
                        way = WAYS[(asked + turns[rule]) % len(WAYS)]
                        self.answers_are_the_same(question, told, [way])
                        self.same(head_of(part_at(told, place), there), head_of(part, there))
                    else:
                        self.assertTrue(not has_words(rule, part) or rule in ("pick left", "pick right", "one round"))
        self.assertGreater(min(turns.values()), 1, turns)
        self.assertGreater(sum(within.values()), 100, within)

    def test_one_rule_behind_another(self):
        rng = random.Random(37)
        for k in range(40):
            question = some_question(rng, HEADS, 2 + k % 3)[0]
            if degree(question) > 3:
                continue
            told = question
            for turn in range(12):
                choices = [(rule, place) for place in places(told) for rule in RULES]
                rng.shuffle(choices)
                turnings = [turned_at(rule, told, place, HEADS) for rule, place in choices[:60]]
                told = ([other for other in turnings if other is not None] + [told])[0]
            if degree(told) <= 6:
                self.answers_are_the_same(question, told)

    def test_unrolled(self):
        rng = random.Random(38)
        asked = 0
        while asked < 150:
            question = some_question(rng, HEADS, 2 + asked % 4)[0]
            if degree(question) <= 4 and "ring" in words_of(question):
                asked += 1
                self.answers_are_the_same(question, unrolled(question))

    def test_rings_within_rings(self):
        inner = ring(2, ("keep", ("b",), N), ("keep", ("b",), ("join", ("table", "m"), N)), "m")
        for times in range(3):
            question = ring(times, R, ("keep", ("a", "b"), ("join", inner, R)))
            ways = [(way, marks) for way, marks in WAYS if way.__class__ == Counts or times < 2]
            if times < 2:
                self.answers_are_the_same(question, unrolled(question), ways)
            for way, marks in ways:
                tables = sample_tables(way, marks)
                self.same(answer(way, unrolled(question), tables), answer(way, question, tables))
