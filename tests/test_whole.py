"""Point 5: what holds for every question and all tables, whatever the way."""

import random
import unittest

from tests.helper import (HEADS, ROWS, WAYS, Shapes, more_picks, sample_marks, sample_store, sample_tables,
                          some_questions, store_of, table)
from whence.answers import answer
from whence.chains import chain_cut, layers_of
from whence.cuts import shows
from whence.places import places
from whence.questions import degree
from whence.quick import quick
from whence.rings import unrolled
from whence.rules import RULES, turned_at
from whence.stores import Store
from whence.strikings import strikings
from whence.sums import Sums
from whence.tables import mark_of
from whence.trees import tree_product, trees
from whence.values import struck_in, valued
from whence.views import View
from whence.whys import why, why_not, why_nots, whys


class SumsThenMarks(unittest.TestCase, Shapes):
    def test_sums_then_marks_is_to_reckon_at_once(self):
        store = sample_store()
        for k, question in enumerate(some_questions(5, 200, 5)):
            sums = answer(Sums(), question, store.named())
            for way, some in WAYS:
                marks = sample_marks(way, some, store.all_names(), k)
                self.same(valued(sums, way, marks), answer(way, question, store.marked(way, marks)), question)

    def test_noughts_among_the_marks(self):
        store = sample_store()
        for k, question in enumerate(some_questions(6, 80, 4)):
            sums = answer(Sums(), question, store.named())
            for way, some in WAYS:
                marks = sample_marks(way, some + [way.nought, way.one], store.all_names(), k)
                self.same(valued(sums, way, marks), answer(way, question, store.marked(way, marks)), question)

    def test_no_product_has_more_names_than_the_degree(self):
        store = sample_store()
        for question in some_questions(31, 150, 5):
            for some in answer(Sums(), question, store.named())[1].values():
                for product, many in some:
                    self.assertLessEqual(len(product), degree(question), question)


class Struck(unittest.TestCase, Shapes):
    def test_to_strike_a_row_is_to_put_nought_for_its_name(self):
        store = sample_store()
        for k, question in enumerate(some_questions(7, 60, 4)):
            sums = answer(Sums(), question, store.named())
            for name in ("r1", "r3", "s1", "t1", "z2"):
                twin = store.twin()
                twin.strike(name)
                self.same(answer(Sums(), question, twin.named()), struck_in(sums, name), question)
                for way, some in WAYS[k % 3::3]:
                    marks = sample_marks(way, some, store.all_names(), k)
                    gone = {**marks, name: way.nought}
                    wanted = answer(way, question, twin.marked(way, marks))
                    self.same(answer(way, question, store.marked(way, gone)), wanted)
                    self.same(valued(sums, way, gone), wanted)
                    self.same(valued(struck_in(sums, name), way, marks), wanted)

    def test_in_a_view_that_was_kept_by_gains(self):
        store = sample_store()
        rng = random.Random(8)
        for k, question in enumerate(some_questions(8, 60, 4)):
            view = View(question, HEADS)
            for row in rng.sample(ROWS, len(ROWS)):
                view.came(*row)
            self.same(view.told(), answer(Sums(), question, store.named()), question)
            gone = rng.sample(store.all_names(), 3)
            for name in gone:
                before = view.told()
                view.gone(name)
                self.same(view.told(), struck_in(before, name), question)
            twin = store.twin()
            for name in gone:
                twin.strike(name)
            self.same(view.told(), answer(Sums(), question, twin.named()), question)
            for way, some in WAYS[k % 3::3]:
                marks = sample_marks(way, some, store.all_names(), k)
                noughts = {**marks, **{name: way.nought for name in gone}}
                wanted = answer(way, question, store.marked(way, noughts))
                self.same(view.told_in(way, marks), wanted)
                self.same(view.told_in(way, noughts), wanted)


class Turned(unittest.TestCase, Shapes):
    def test_the_quick_turning_and_the_unrolling_change_no_mark(self):
        store = sample_store()
        rng = random.Random(9)
        for k, plain in enumerate(some_questions(9, 100, 4)):
            question = more_picks(rng, plain, HEADS)
            told = quick(question, HEADS)
            flat = unrolled(told)
            for way, some in WAYS:
                tables = store.marked(way, sample_marks(way, some, store.all_names(), k))
                wanted = answer(way, question, tables)
                self.same(answer(way, told, tables), wanted, question)
                self.same(answer(way, flat, tables), wanted, question)


    def test_rules_unrolling_and_quick_turning_one_behind_the_other(self):
        rng = random.Random(11)
        for k, plain in enumerate(some_questions(11, 60, 3, 4)):
            question = plain
            for times in range(6):
                place = rng.choice(places(question))
                turns = [turned_at(rule, question, place, HEADS) for rule in RULES]
                turns = [one for one in turns if one is not None and degree(one) <= 4 and len(places(one)) <= 60]
                question = rng.choice(turns) if turns else question
            for told in (question, quick(question, HEADS), unrolled(question), quick(unrolled(question), HEADS)):
                for way, some in WAYS[k % 3::3]:
                    tables = sample_tables(way, some)
                    self.same(answer(way, told, tables), answer(way, plain, tables), plain)


class Trees(unittest.TestCase, Shapes):
    def test_the_products_of_all_trees_add_up_to_the_sum(self):
        store = sample_store()
        for question in some_questions(10, 100, 4):
            for row, wanted in list(answer(Sums(), question, store.named())[1].items())[:8]:
                told = Sums().nought
                for tree in trees(question, store, row):
                    told = Sums().plus(told, ((tree_product(tree), 1),))
                self.same(told, wanted, question)


def comes(question, rows, row):
    return row in answer(Sums(), question, store_of(rows).named())[1]


class Whys(unittest.TestCase, Shapes):
    def test_a_why_brings_the_row_by_itself_and_none_can_be_left_out(self):
        store = sample_store()
        for question in some_questions(12, 60, 4):
            for row in list(answer(Sums(), question, store.named())[1])[:4]:
                for told in whys(question, store, row)[:3] + (why(question, store, row),):
                    alone = [one for one in ROWS if one[1] in told]
                    self.assertTrue(comes(question, alone, row), question)
                    for gone in alone:
                        self.assertFalse(comes(question, [one for one in alone if one != gone], row), question)

    def test_a_why_not_brings_it_out_of_rows_that_might_come(self):
        rng = random.Random(13)
        brought = 0
        for question in some_questions(13, 80, 4):
            rows = rng.sample(ROWS, len(ROWS))
            there, stock = rows[:5], rows[5:]
            for row in list(answer(Sums(), question, sample_store().named())[1])[:3]:
                told = why_not(question, store_of(there), stock, row)
                self.assertIn(told, why_nots(question, store_of(there), stock, row))
                some = [one for one in stock if one[1] in told]
                self.assertTrue(comes(question, there + some, row), question)
                for gone in some:
                    self.assertFalse(comes(question, there + [one for one in some if one != gone], row), question)
                    brought += 1
        self.assertGreater(brought, 50)

    def test_strikings_make_the_row_go_and_the_tree_shows_that_no_fewer_do(self):
        store = sample_store()
        for question in some_questions(14, 80, 4):
            for row in list(answer(Sums(), question, store.named())[1])[:3]:
                names, tree = strikings(question, store, row, 3, [])
                reasons = whys(question, store, row)
                if names is None:
                    self.assertIs(shows(tree, reasons, 3, []), True)
                    continue
                self.assertFalse(comes(question, [one for one in ROWS if one[1] not in names], row), question)
                self.assertIs(shows(tree, reasons, len(names) - 1, []), True)


class Chains(unittest.TestCase, Shapes):
    def test_along_a_chain_of_tables(self):
        rng = random.Random(15)
        tables = ["A", "B", "C"]
        question = ("keep", (), ("join", table("A"), ("join", table("B"), table("C"))))
        for k in range(60):
            store, prices = Store(), {}
            for j, name in enumerate(tables):
                store.make(name, (f"x{j}", f"x{j + 1}"))
                for i in range(1 + rng.randrange(5)):
                    prices[f"{name}{i}"] = rng.choice((0, 1, 1, 2, 7)) if k % 2 else 1
                    store.put(name, f"{name}{i}", (rng.randrange(3), rng.randrange(3)))
            price, names, packing = chain_cut(layers_of(store, tables, prices))
            twin = store.twin()
            for name in names:
                twin.strike(name)
            self.same(answer(Sums(), question, twin.named()), ((), {}))
            # The ways through are the row's products; a packing of them within the prices shows the price.
            ways = [tuple(sorted(way)) for many, way in packing]
            some = mark_of(Sums(), answer(Sums(), question, store.named()), ())
            products = [product for product, many in some]
            self.assertLessEqual(set(ways), set(products))
            self.assertEqual(sum([many for many, way in packing]), price)
            self.assertEqual(sum([prices[name] for name in names]), price)
            for name in prices:
                self.assertLessEqual(sum([many for many, way in packing if name in way]), prices[name])
            # With a price of one for each, the cheapest are the fewest.
            if k % 2 == 0 and price <= 4:
                self.same(len(strikings(question, store, (), 4, [])[0]), price)
