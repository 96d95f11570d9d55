"""Point 5: what holds for every question and all tables, whatever the way."""

import random
import unittest

from tests.helper import HEADS, WAYS, Shapes, sample_marks, sample_store, some_question
from whence.answers import answer
from whence.questions import degree
from whence.sums import Sums
from whence.values import struck_in, valued


def some_questions(seed, many, most):
    rng = random.Random(seed)
    told = []
    while len(told) < many:
        question = some_question(rng, HEADS, 1 + len(told) % 5)[0]
        if degree(question) <= most:
            told.append(question)
    return told


class SumsThenMarks(unittest.TestCase, Shapes):
    def test_sums_then_marks_is_to_reckon_at_once(self):
        store = sample_store()
        for k, question in enumerate(some_questions(5, 200, 5)):
            sums = answer(Sums(), question, store.named())
            for way, some in WAYS:
                marks = sample_marks(way, some, store.all_names(), k)
                self.same(valued(sums, way, marks), answer(way, question, store.marked(way, marks)), question)

    def test_noughts_among_the_marks(self):
        store = sample_store()
        for k, question in enumerate(some_questions(6, 80, 4)):
            sums = answer(Sums(), question, store.named())
            for way, some in WAYS:
                marks = sample_marks(way, some + [way.nought, way.one], store.all_names(), k)
                self.same(valued(sums, way, marks), answer(way, question, store.marked(way, marks)), question)

    def test_no_product_has_more_names_than_the_degree(self):
        store = sample_store()
        for question in some_questions(31, 150, 5):
            for some in answer(Sums(), question, store.named())[1].values():
                for product, many in some:
                    self.assertLessEqual(len(product), degree(question), question)


class Struck(unittest.TestCase, Shapes):
    def test_to_strike_a_row_is_to_put_nought_for_its_name(self):
        store = sample_store()
        for k, question in enumerate(some_questions(7, 60, 4)):
            sums = answer(Sums(), question, store.named())
            for name in ("r1", "r3", "s1", "t1", "z2"):
                twin = store.twin()
                twin.strike(name)
                self.same(answer(Sums(), question, twin.named()), struck_in(sums, name), question)
                for way, some in WAYS[k % 3::3]:
                    marks = sample_marks(way, some, store.all_names(), k)
                    gone = {**marks, name: way.nought}
                    wanted = answer(way, question, twin.marked(way, marks))
                    self.same(answer(way, question, store.marked(way, gone)), wanted)
                    self.same(valued(sums, way, gone), wanted)
                    self.same(valued(struck_in(sums, name), way, marks), wanted)
