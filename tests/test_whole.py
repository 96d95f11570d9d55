"""Point 5: what holds for every question and all tables, whatever the way."""

import random
import unittest

from tests.helper import HEADS, ROWS, WAYS, Shapes, more_picks, sample_marks, sample_store, some_questions
from whence.answers import answer
from whence.questions import degree
from whence.quick import quick
from whence.rings import unrolled
from whence.sums import Sums
from whence.trees import tree_product, trees
from whence.values import struck_in, valued
from whence.views import View


class SumsThenMarks(unittest.TestCase, Shapes):
    def test_sums_then_marks_is_to_reckon_at_once(self):
        store = sample_store()
        for k, question in enumerate(some_questions(5, 200, 5)):
            sums = answer(Sums(), question, store.named())
            for way, some in WAYS:
                marks = sample_marks(way, some, store.all_names(), k)
                self.same(valued(sums, way, marks), answer(way, question, store.marked(way, marks)), question)

    def test_noughts_among_the_marks(self):
        store = sample_store()
        for k, question in enumerate(some_questions(6, 80, 4)):
            sums = answer(Sums(), question, store.named())
            for way, some in WAYS:
                marks = sample_marks(way, some + [way.nought, way.one], store.all_names(), k)
                self.same(valued(sums, way, marks), answer(way, question, store.marked(way, marks)), question)

    def test_no_product_has_more_names_than_the_degree(self):
        store = sample_store()
        for question in some_questions(31, 150, 5):
            for some in answer(Sums(), question, store.named())[1].values():
                for product, many in some:
                    self.assertLessEqual(len(product), degree(question), question)


class Struck(unittest.TestCase, Shapes):
    def test_to_strike_a_row_is_to_put_nought_for_its_name(self):
        store = sample_store()
        for k, question in enumerate(some_questions(7, 60, 4)):
            sums = answer(Sums(), question, store.named())
            for name in ("r1", "r3", "s1", "t1", "z2"):
                twin = store.twin()
                twin.strike(name)
                self.same(answer(Sums(), question, twin.named()), struck_in(sums, name), question)
                for way, some in WAYS[k % 3::3]:
                    marks = sample_marks(way, some, store.all_names(), k)
                    gone = {**marks, name: way.nought}
                    wanted = answer(way, question, twin.marked(way, marks))
                    self.same(answer(way, question, store.marked(way, gone)), wanted)
                    self.same(valued(sums, way, gone), wanted)
                    self.same(valued(struck_in(sums, name), way, marks), wanted)

    def test_in_a_view_that_was_kept_by_gains(self):
        store = sample_store()
        rng = random.Random(8)
        for k, question in enumerate(some_questions(8, 60, 4)):
            view = View(question, HEADS)
            for row in rng.sample(ROWS, len(ROWS)):
                view.came(*row)
            self.same(view.told(), answer(Sums(), question, store.named()), question)
            gone = rng.sample(store.all_names(), 3)
            for name in gone:
                before = view.told()
                view.gone(name)
                self.same(view.told(), struck_in(before, name), question)
            twin = store.twin()
            for name in gone:
                twin.strike(name)
            self.same(view.told(), answer(Sums(), question, twin.named()), question)
            for way, some in WAYS[k % 3::3]:
                marks = sample_marks(way, some, store.all_names(), k)
                noughts = {**marks, **{name: way.nought for name in gone}}
                wanted = answer(way, question, store.marked(way, noughts))
                self.same(view.told_in(way, marks), wanted)
                self.same(view.told_in(way, noughts), wanted)


class Turned(unittest.TestCase, Shapes):
    def test_the_quick_turning_and_the_unrolling_change_no_mark(self):
        store = sample_store()
        rng = random.Random(9)
        for k, plain in enumerate(some_questions(9, 100, 4)):
            question = more_picks(rng, plain, HEADS)
            told = quick(question, HEADS)
            flat = unrolled(told)
            for way, some in WAYS:
                tables = store.marked(way, sample_marks(way, some, store.all_names(), k))
                wanted = answer(way, question, tables)
                self.same(answer(way, told, tables), wanted, question)
                self.same(answer(way, flat, tables), wanted, question)


class Trees(unittest.TestCase, Shapes):
    def test_the_products_of_all_trees_add_up_to_the_sum(self):
        store = sample_store()
        for question in some_questions(10, 100, 4):
            for row, wanted in list(answer(Sums(), question, store.named())[1].items())[:8]:
                told = Sums().nought
                for tree in trees(question, store, row):
                    told = Sums().plus(told, ((tree_product(tree), 1),))
                self.same(told, wanted, question)
