import copy
import unittest

from tests.helper import A, B, C, PLAIN, SEERS, WAYS, Shapes, filled, joined_slowly, put_slowly, told_of
from whence.errors import NoColumn, NoFit, NoMark, NoRow, WhenceError
from whence.picks import passes
from whence.sums import Sums, worth
from whence.tables import called, joined, kept, make_table, mark_of, picked, together
from whence.ways import Costs, Counts, Pairs, Rounds, Seers, Truths


class MakeTable(unittest.TestCase, Shapes):
    def test_ordinary(self):
        self.same(make_table(Counts(), ("a", "b"), [((1, "x"), 2), ((2, "y"), 3)]),
                  (("a", "b"), {(1, "x"): 2, (2, "y"): 3}))
        self.same(make_table(Truths(), ("a",), [((1,), True), (("1",), True)]), (("a",), {(1,): True, ("1",): True}))

    def test_marks_of_alike_rows_are_put_together(self):
        pairs = [((1,), 2), ((2,), 1), ((1,), 3), ((1,), 4)]
        self.same(make_table(Counts(), ("a",), pairs), (("a",), {(1,): 9, (2,): 1}))
        self.same(make_table(Costs(), ("a",), pairs), (("a",), {(1,): 2, (2,): 1}))
        self.same(make_table(Sums(), ("a",), [((1,), A), ((1,), B), ((1,), A)]),
                  (("a",), {(1,): ((("a",), 2), (("b",), 1))}))

    def test_noughts_are_left_out(self):
        self.same(make_table(Counts(), ("a",), [((1,), 0), ((2,), 1), ((3,), 0)]), (("a",), {(2,): 1}))
        self.same(make_table(Costs(), ("a",), [((1,), None), ((2,), 0)]), (("a",), {(2,): 0}))
        self.same(make_table(SEERS, ("a",), [((1,), ()), ((2,), ("p",))]), (("a",), {(2,): ("p",)}))
        self.same(make_table(Pairs(Counts(), Costs()), ("a",), [((1,), (0, None)), ((2,), (0, 0)), ((3,), (1, None))]),
                  (("a",), {(2,): (0, 0), (3,): (1, None)}))
        self.same(make_table(Seers([]), ("a",), [((1,), ())]), (("a",), {}))

    def test_what_comes_to_nought_is_left_out_and_may_go_on(self):
        self.same(make_table(Rounds(2), ("a",), [((1,), 1), ((2,), 1), ((1,), 1)]), (("a",), {(2,): 1}))
        self.same(make_table(Rounds(2), ("a",), [((1,), 1)] * 3), (("a",), {(1,): 1}))
        self.same(make_table(Rounds(4), ("a",), [((1,), 2), ((1,), 2), ((1,), 3)]), (("a",), {(1,): 3}))

    def test_without_columns_or_rows(self):
        self.same(make_table(Counts(), (), []), ((), {}))
        self.same(make_table(Counts(), (), [((), 2), ((), 3)]), ((), {(): 5}))
        self.same(make_table(Counts(), ("a", "b"), []), (("a", "b"), {}))
        with self.assertRaises(NoRow):
            make_table(Counts(), (), [((1,), 1)])

    def test_a_column_twice_is_refused_ahead_of_all(self):
        for pairs in ([], [((1, 2), 1)], [((1,), 1)], [((1, 2), -1)], [((1,), None)]):
            with self.assertRaises(NoColumn):
                make_table(Counts(), ("a", "a"), pairs)
        with self.assertRaises(NoColumn):
            make_table(Counts(), ("a", "b", "a"), [((1, 2, 3), 1)])

    def test_the_first_pair_is_refused(self):
        good, row, mark, both = ((1, 2), 1), ((1,), 1), ((1, 2), -1), ((1, 2, 3), None)
        for pairs, error in (([row], NoRow), ([mark], NoMark), ([both], NoRow), ([good, row, mark], NoRow),
                             ([good, mark, row], NoMark), ([mark, both], NoMark), ([both, mark], NoRow),
                             ([good, good, both], NoRow), ([mark, good, row], NoMark), ([((), 1)], NoRow)):
            with self.assertRaises(error):
                make_table(Counts(), ("a", "b"), pairs)

    def test_whatever_is_no_mark_is_refused(self):
        for way, marks in WAYS:
            for thing in PLAIN:
                if way.is_mark(thing):
                    make_table(way, ("a",), [((1,), thing)])
                else:
                    with self.assertRaises(NoMark):
                        make_table(way, ("a",), [((1,), thing)])
                    with self.assertRaises(NoRow):
                        make_table(way, ("a",), [((1, 2), thing)])
                    with self.assertRaises(NoColumn):
                        make_table(way, ("a", "a"), [((1, 2), thing)])

    def test_a_mark_that_comes_to_nought_later_is_refused_all_the_same(self):
        with self.assertRaises(NoMark):
            make_table(Rounds(4), ("a",), [((1,), 2), ((1,), 2), ((2,), 4)])

    def test_what_is_handed_in_stays_and_what_is_told_is_the_askers_own(self):
        pairs = [((1,), 2), ((1,), 3)]
        told = make_table(Counts(), ("a",), pairs)
        self.same(pairs, [((1,), 2), ((1,), 3)])
        pairs.append(((1,), 1))
        self.same(told, (("a",), {(1,): 5}))
        told[1][(7,)] = 1
        self.same(make_table(Counts(), ("a",), pairs), (("a",), {(1,): 6}))

    def test_sixty_rows_of_twelve_columns(self):
        head = tuple([f"c{k}" for k in range(12)])
        pairs = [((k,) * 12, k + 1) for k in range(60)]
        self.same(make_table(Counts(), head, pairs), (head, dict(pairs)))


class Picked(unittest.TestCase, Shapes):
    ONE = (("a", "b"), {(1, 1): 2, (1, "1"): 3, ("1", "1"): 4, (2, 1): 5})

    def test_ordinary(self):
        self.same(picked(self.ONE, ("is", "a", 1)), (("a", "b"), {(1, 1): 2, (1, "1"): 3}))
        self.same(picked(self.ONE, ("same", "a", "b")), (("a", "b"), {(1, 1): 2, ("1", "1"): 4}))
        self.same(picked(self.ONE, ("and", ("is", "a", 1), ("is", "b", "1"))), (("a", "b"), {(1, "1"): 3}))
        self.same(picked(self.ONE, ("not", ("or", ("is", "a", 1), ("is", "b", "1")))), (("a", "b"), {(2, 1): 5}))
        self.same(picked(self.ONE, ("is", "a", 9)), (("a", "b"), {}))

    def test_the_rows_that_pass_in_each_way(self):
        for way, marks in WAYS:
            one = filled(way, marks, ("x", "y"), 4)
            for test in (("is", "x", 1), ("not", ("same", "x", "y")), ("or", ("is", "y", "1"), ("is", "x", 2))):
                wanted = {row: mark for row, mark in one[1].items() if passes(test, one[0], row)}
                self.same(picked(one, test), (one[0], wanted))

    def test_without_rows(self):
        self.same(picked((("a",), {}), ("is", "a", 1)), (("a",), {}))

    def test_columns_that_are_not_there_are_refused_whatever_the_rows_are(self):
        no = ("is", "c", 1)
        for one in (self.ONE, (("a", "b"), {})):
            for test in (no, ("or", ("is", "a", 1), no), ("and", ("is", "a", 7), no), ("same", "a", "c")):
                with self.assertRaises(NoColumn):
                    picked(one, test)
        for one in (((), {}), ((), {(): 1})):
            with self.assertRaises(NoColumn):
                picked(one, ("is", "a", 1))

    def test_it_is_a_new_table(self):
        one = copy.deepcopy(self.ONE)
        told = picked(one, ("same", "a", "a"))
        self.same(told, one)
        told[1].clear()
        self.same(one, self.ONE)
        self.same(picked(one, ("same", "a", "a")), self.ONE)


class Kept(unittest.TestCase, Shapes):
    ONE = (("a", "b", "c"), {(1, 2, 3): 1, (1, 2, 4): 2, (2, 2, 3): 3})

    def test_ordinary(self):
        self.same(kept(Counts(), self.ONE, ("a", "b")), (("a", "b"), {(1, 2): 3, (2, 2): 3}))
        self.same(kept(Costs(), self.ONE, ("b", "a")), (("b", "a"), {(2, 1): 1, (2, 2): 3}))
        self.same(kept(Counts(), self.ONE, ("c", "b", "a")), (("c", "b", "a"), {(3, 2, 1): 1, (4, 2, 1): 2, (3, 2, 2): 3}))
        self.same(kept(Counts(), self.ONE, ("a", "b", "c")), self.ONE)

    def test_no_columns(self):
        self.same(kept(Counts(), self.ONE, ()), ((), {(): 6}))
        self.same(kept(Rounds(6), self.ONE, ()), ((), {}))
        self.same(kept(Counts(), (("a",), {}), ()), ((), {}))
        self.same(kept(Counts(), ((), {(): 4}), ()), ((), {(): 4}))

    def test_noughts_are_left_out(self):
        self.same(kept(Rounds(3), (("a", "b"), {(1, 1): 1, (1, 2): 2, (2, 1): 1}), ("a",)), (("a",), {(2,): 1}))
        self.same(kept(Rounds(4), (("a", "b"), {(1, 1): 2, (1, 2): 2, (1, 3): 3}), ("a",)), (("a",), {(1,): 3}))

    def test_values_that_are_texts_and_numbers_stay_apart(self):
        self.same(kept(Counts(), (("a", "b"), {(1, 1): 1, ("1", 2): 2}), ("a",)), (("a",), {(1,): 1, ("1",): 2}))

    def test_each_way(self):
        for way, marks in WAYS:
            one = filled(way, marks, ("x", "y", "z"), 5)
            for columns in ((), ("x",), ("z", "x"), ("y", "z", "x")):
                pairs = [(told_of(one[0], row, columns), mark) for row, mark in one[1].items()]
                self.same(kept(way, one, columns), (columns, put_slowly(way, pairs)))

    def test_refused(self):
        for one in (self.ONE, (("a", "b", "c"), {})):
            for columns in (("d",), ("a", "a"), ("a", "d"), ("b", "a", "b")):
                with self.assertRaises(NoColumn):
                    kept(Counts(), one, columns)

    def test_it_is_a_new_table(self):
        one = copy.deepcopy(self.ONE)
        told = kept(Counts(), one, ("a", "b", "c"))
        told[1].clear()
        self.same(one, self.ONE)
        self.same(kept(Counts(), one, ("a", "b", "c")), self.ONE)


class Called(unittest.TestCase, Shapes):
    ONE = (("a", "b"), {(1, 2): 5, ("a", "b"): 6})

    def test_ordinary(self):
        self.same(called(self.ONE, "a", "n"), (("n", "b"), self.ONE[1]))
        self.same(called(self.ONE, "b", "n"), (("a", "n"), self.ONE[1]))

    def test_by_its_own_name(self):
        self.same(called(self.ONE, "b", "b"), self.ONE)

    def test_refused(self):
        for one in (self.ONE, (("a", "b"), {})):
            for old, new in (("c", "n"), ("c", "c"), ("a", "b"), ("c", "a")):
                with self.assertRaises(NoColumn):
                    called(one, old, new)

    def test_it_is_a_new_table(self):
        one = copy.deepcopy(self.ONE)
        for new in ("n", "a"):
            called(one, "a", new)[1].clear()
            self.same(one, self.ONE)


class Joined(unittest.TestCase, Shapes):
    def test_some_columns_shared(self):
        one = (("a", "b"), {(1, 2): 2, (1, 3): 3, (4, 5): 7})
        other = (("c", "b"), {(8, 2): 5, (9, 2): 11, (8, 5): 13, (8, 6): 17})
        self.same(joined(Counts(), one, other),
                  (("a", "b", "c"), {(1, 2, 8): 10, (1, 2, 9): 22, (4, 5, 8): 91}))
        self.same(joined(Counts(), other, one),
                  (("c", "b", "a"), {(8, 2, 1): 10, (9, 2, 1): 22, (8, 5, 4): 91}))
        self.same(joined(Costs(), one, other),
                  (("a", "b", "c"), {(1, 2, 8): 7, (1, 2, 9): 13, (4, 5, 8): 20}))

    def test_the_others_columns_in_its_order(self):
        one = (("b",), {(2,): 1})
        other = (("d", "b", "c", "a"), {(4, 2, 3, 1): 5, (4, 0, 3, 1): 5})
        self.same(joined(Counts(), one, other), (("b", "d", "c", "a"), {(2, 4, 3, 1): 5}))

    def test_no_column_shared(self):
        one, other = (("a",), {(1,): 2, (2,): 3}), (("b",), {(1,): 5, (3,): 7})
        self.same(joined(Counts(), one, other),
                  (("a", "b"), {(1, 1): 10, (1, 3): 14, (2, 1): 15, (2, 3): 21}))

    def test_all_columns_shared_in_another_order(self):
        one, other = (("a", "b"), {(1, 2): 2, (2, 2): 3}), (("b", "a"), {(2, 1): 5, (1, 2): 7, (2, 2): 11})
        self.same(joined(Counts(), one, other), (("a", "b"), {(1, 2): 10, (2, 2): 33}))

    def test_two_columns_shared_in_another_order(self):
        one = (("a", "b", "c"), {(1, 2, 3): 1, (2, 1, 3): 1})
        other = (("b", "d", "a"), {(2, 9, 1): 5, (2, 8, 2): 7})
        self.same(joined(Counts(), one, other), (("a", "b", "c", "d"), {(1, 2, 3, 9): 5}))

    def test_with_itself(self):
        one = (("a", "b"), {(1, 2): 2, (1, 3): 3})
        self.same(joined(Counts(), one, one), (("a", "b"), {(1, 2): 4, (1, 3): 9}))
        self.same(joined(Rounds(4), one, one), (("a", "b"), {(1, 3): 1}))
        self.same(one, (("a", "b"), {(1, 2): 2, (1, 3): 3}))

    def test_heads_without_columns(self):
        one = (("a",), {(1,): 2})
        self.same(joined(Counts(), one, ((), {(): 3})), (("a",), {(1,): 6}))
        self.same(joined(Counts(), ((), {(): 3}), one), (("a",), {(1,): 6}))
        self.same(joined(Counts(), one, ((), {})), (("a",), {}))
        self.same(joined(Counts(), ((), {(): 2}), ((), {(): 5})), ((), {(): 10}))

    def test_noughts_are_left_out(self):
        one, other = (("a",), {(1,): ("p",), (2,): ("p", "q")}), (("a",), {(1,): ("q",), (2,): ("q", "r")})
        self.same(joined(SEERS, one, other), (("a",), {(2,): ("q",)}))
        self.same(joined(Rounds(6), (("a",), {(1,): 2, (2,): 4}), (("b",), {(1,): 3, (2,): 5})),
                  (("a", "b"), {(1, 2): 4, (2, 2): 2}))

    def test_a_number_and_a_text_do_not_meet(self):
        self.same(joined(Counts(), (("a",), {(1,): 1, ("1",): 2}), (("a",), {("1",): 3})), (("a",), {("1",): 6}))

    def test_each_way(self):
        heads = ((), ("x",), ("x", "y"), ("y", "x"), ("y", "z"), ("z",), ("z", "x", "y"))
        for way, marks in WAYS:
            for head in heads:
                for other in heads:
                    left, right = filled(way, marks, head, 3), filled(way, marks, other, 4)
                    self.same(joined(way, left, right), joined_slowly(way, left, right))


class Together(unittest.TestCase, Shapes):
    def test_ordinary(self):
        one, other = (("a",), {(1,): 2, (2,): 3}), (("a",), {(2,): 5, (3,): 7})
        self.same(together(Counts(), one, other), (("a",), {(1,): 2, (2,): 8, (3,): 7}))
        self.same(together(Costs(), one, other), (("a",), {(1,): 2, (2,): 3, (3,): 7}))

    def test_the_columns_in_another_order(self):
        one, other = (("a", "b", "c"), {(1, 2, 3): 2}), (("c", "a", "b"), {(3, 1, 2): 5, (1, 2, 3): 7})
        self.same(together(Counts(), one, other), (("a", "b", "c"), {(1, 2, 3): 7, (2, 3, 1): 7}))
        self.same(together(Counts(), other, one), (("c", "a", "b"), {(3, 1, 2): 7, (1, 2, 3): 7}))

    def test_noughts_are_left_out(self):
        one, other = (("a",), {(1,): 2, (2,): 1}), (("a",), {(1,): 2, (2,): 2})
        self.same(together(Rounds(4), one, other), (("a",), {(2,): 3}))

    def test_with_itself(self):
        one = (("a", "b"), {(1, 2): 1, (2, 1): 2})
        self.same(together(Counts(), one, one), (("a", "b"), {(1, 2): 2, (2, 1): 4}))
        self.same(together(Rounds(4), one, one), (("a", "b"), {(1, 2): 2}))
        self.same(one, (("a", "b"), {(1, 2): 1, (2, 1): 2}))

    def test_without_columns_or_rows(self):
        self.same(together(Counts(), ((), {(): 2}), ((), {(): 3})), ((), {(): 5}))
        self.same(together(Counts(), ((), {}), ((), {(): 3})), ((), {(): 3}))
        self.same(together(Counts(), (("a",), {}), (("a",), {})), (("a",), {}))

    def test_each_way(self):
        for way, marks in WAYS:
            one = filled(way, marks, ("x", "y"), 3)
            for head in (("x", "y"), ("y", "x")):
                other = filled(way, marks, head, 4)
                turned = [(told_of(head, row, one[0]), mark) for row, mark in other[1].items()]
                wanted = put_slowly(way, list(one[1].items()) + turned)
                self.same(together(way, one, other), (one[0], wanted))

    def test_refused(self):
        for rows, others in (({(1, 2): 1}, {}), ({}, {})):
            for head in (("a",), ("a", "c"), ("a", "b", "c"), ()):
                with self.assertRaises(NoFit):
                    together(Counts(), (("a", "b"), rows), (head, others))
                with self.assertRaises(NoFit):
                    together(Counts(), (head, others), (("a", "b"), rows))

    def test_it_is_a_new_table(self):
        one, other = (("a",), {(1,): 2}), (("a",), {(2,): 3})
        for told in (together(Counts(), one, (("a",), {})), together(Counts(), (("a",), {}), other),
                     joined(Counts(), one, ((), {(): 1})), joined(Counts(), ((), {(): 1}), other)):
            told[1].clear()
        self.same(one, (("a",), {(1,): 2}))
        self.same(other, (("a",), {(2,): 3}))


class MarkOf(unittest.TestCase, Shapes):
    def test_a_rows_mark_or_nought(self):
        for way, marks in WAYS:
            one = (("a", "b"), {(1, "1"): marks[0], (2, 2): marks[-1]})
            self.same(mark_of(way, one, (1, "1")), marks[0])
            self.same(mark_of(way, one, (2, 2)), marks[-1])
            for row in ((1, 1), ("1", "1"), (3, 3), (1,), (), (1, "1", 1)):
                self.same(mark_of(way, one, row), way.nought)
            self.same(one, (("a", "b"), {(1, "1"): marks[0], (2, 2): marks[-1]}))

    def test_without_columns(self):
        self.same(mark_of(Costs(), ((), {(): 0}), ()), 0)
        self.same(mark_of(Costs(), ((), {}), ()), None)


class TheWhole(unittest.TestCase, Shapes):
    def test_sums_that_are_given_marks_come_to_the_same(self):
        names = {"a": 0, "b": 1, "c": 2}
        for way, marks in WAYS:
            told = {name: marks[place % len(marks)] for name, place in names.items()}
            sums = (("x", "y"), {(1, 1): A, (1, 2): B, (2, 1): C})
            flat = (("x", "y"), {row: worth(some, way, told) for row, some in sums[1].items()})
            for ask in (lambda w, one: kept(w, joined(w, one, called(one, "x", "z")), ("x",)),
                        lambda w, one: together(w, kept(w, one, ("y", "x")), called(called(called(
                            one, "x", "z"), "y", "x"), "z", "y")),
                        lambda w, one: picked(joined(w, one, one), ("not", ("is", "x", 2)))):
                answer = ask(Sums(), sums)
                wanted = put_slowly(way, [(row, worth(some, way, told)) for row, some in answer[1].items()])
                self.same(ask(way, flat), (answer[0], wanted))

    def test_the_refusals_are_any_refusal(self):
        for wider in (WhenceError, ValueError):
            with self.assertRaises(wider):
                make_table(Counts(), ("a",), [((1,), -1)])
            with self.assertRaises(wider):
                kept(Counts(), (("a",), {}), ("b",))
