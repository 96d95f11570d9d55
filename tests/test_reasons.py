import itertools
import unittest

from tests.helper import HUGE, Shapes
from whence.reasons import Reasons, least_of, reasons_of
from whence.sums import Sums, bare, worth


def least_slowly(some):
    sets = set([frozenset(names) for names in some])
    return tuple(sorted([tuple(sorted(one)) for one in sets if not any([other < one for other in sets])]))


SUBSETS = [(), ("a",), ("b",), ("c",), ("a", "b"), ("a", "c"), ("b", "c"), ("a", "b", "c")]


def all_marks():
    """All marks of Reasons over three names."""
    lists = [list(some) for size in range(len(SUBSETS) + 1) for some in itertools.combinations(SUBSETS, size)]
    return sorted(set([least_slowly(some) for some in lists]))


class LeastOf(unittest.TestCase, Shapes):
    def test_ordinary(self):
        self.same(least_of([("a", "b"), ("a",), ("b", "c")]), (("a",), ("b", "c")))
        self.same(least_of([("a", "b", "c"), ("b", "c"), ("a", "b")]), (("a", "b"), ("b", "c")))
        self.same(least_of([("c",), ("a",), ("b",)]), (("a",), ("b",), ("c",)))

    def test_tuples_in_any_order_with_names_and_sets_several_times(self):
        self.same(least_of([("b", "a")]), (("a", "b"),))
        self.same(least_of([("b", "a", "b", "b")]), (("a", "b"),))
        self.same(least_of([("b", "a"), ("a", "b"), ("a", "a", "b"), ("a", "b")]), (("a", "b"),))
        self.same(least_of([("c", "b", "a"), ("b", "b"), ("d", "c"), ("c", "d", "c"), ("b",)]), (("b",), ("c", "d")))

    def test_names_are_not_looked_into(self):
        self.same(least_of([("ab",), ("a", "b"), ("", "b")]), (("", "b"), ("a", "b"), ("ab",)))

    def test_of_none_and_with_the_empty_one(self):
        self.same(least_of([]), ())
        self.same(least_of([()]), ((),))
        self.same(least_of([("a",), (), ("b", "c"), ()]), ((),))

    def test_the_list_stays(self):
        some = [("b", "a"), ("a",), ("a", "a")]
        least_of(some)
        self.same(some, [("b", "a"), ("a",), ("a", "a")])

    def test_all_lists_of_three_sets(self):
        for some in itertools.product(SUBSETS + [("c", "a"), ("b", "a", "b"), ("d",), ("d", "a")], repeat=3):
            self.same(least_of(list(some)), least_slowly(some))

    def test_many_sets(self):
        names = [f"n{k}" for k in range(30)]
        some = [tuple([names[(k * step + k * k) % 30] for step in range(1, 2 + k % 6)]) for k in range(400)]
        self.same(least_of(some), least_slowly(some))

    def test_two_thousand_entries_of_sixty_names(self):
        shared = tuple([f"s{k}" for k in range(59)])
        some = [(f"n{k:04}",) + shared for k in range(2000)]
        self.same(least_of(some), tuple([(f"n{k:04}",) + tuple(sorted(shared)) for k in range(2000)]))
        self.same(least_of(some + [shared]), (tuple(sorted(shared)),))
        self.same(Reasons().plus(least_of(some), (tuple(sorted(shared)),)), (tuple(sorted(shared)),))


class ReasonsAre(unittest.TestCase, Shapes):
    def test_nought_and_one(self):
        self.same(Reasons().nought, ())
        self.same(Reasons().one, ((),))

    def test_plus_is_the_least_of_both(self):
        way = Reasons()
        self.same(way.plus((("a",),), (("b",),)), (("a",), ("b",)))
        self.same(way.plus((("b",),), (("a",),)), (("a",), ("b",)))
        self.same(way.plus((("a", "b"),), (("b",),)), (("b",),))
        self.same(way.plus((("a", "b"), ("c",)), (("a", "c"), ("b",))), (("b",), ("c",)))
        self.same(way.plus((("a",),), ((),)), ((),))
        self.same(way.plus((("a",),), (("a",),)), (("a",),))

    def test_times_is_the_least_of_the_unions(self):
        way = Reasons()
        self.same(way.times((("b",),), (("a",),)), (("a", "b"),))
        self.same(way.times((("a",),), (("a",),)), (("a",),))
        self.same(way.times((("a",), ("b",)), (("a",), ("c",))), (("a",), ("b", "c")))
        self.same(way.times((("a",), ("b",)), (("c",), ("d",))), (("a", "c"), ("a", "d"), ("b", "c"), ("b", "d")))
        self.same(way.times((("a", "b"), ("c",)), (("a", "c"), ("b",))), (("a", "b"), ("a", "c"), ("b", "c")))

    def test_times_of_many_names(self):
        names = [f"n{k:02}" for k in range(60)]
        self.same(Reasons().times((tuple(names[1::2]),), (tuple(names[::2]),)), (tuple(names),))
        left, right = [(name,) for name in names[:30]], [(name,) for name in names[30:]]
        wanted = tuple([a + b for a in left for b in right])
        self.same(Reasons().times(tuple(left), tuple(right)), wanted)
        self.same(Reasons().times(tuple(right), tuple(left)), wanted)

    def test_marks(self):
        wanted = [(), ((),), (("a",),), (("b",),), (("a",), ("b",)), (("a", "b"), ("a", "c")),
                  (("a", "b"), ("a", "c"), ("b", "c"))]
        self.marks_are(Reasons(), wanted)

    def test_just_the_least_are_marks(self):
        marks = all_marks()
        for size in range(5):
            for some in itertools.permutations(SUBSETS, size):
                self.assertIs(Reasons().is_mark(some), some in marks)

    def test_marks_of_great_size(self):
        shared = tuple([f"s{k:02}" for k in range(59)])
        long = tuple([(f"n{k:04}",) + shared for k in range(2000)])
        self.assertIs(Reasons().is_mark(long), True)
        self.assertIs(Reasons().is_mark(long + (shared,)), False)
        self.assertIs(Reasons().is_mark(long[:1] + long), False)
        self.assertIs(Reasons().is_mark(list(long)), False)

    def test_laws(self):
        self.laws_hold(Reasons(), all_marks())


class ReasonsOf(unittest.TestCase, Shapes):
    def test_ordinary(self):
        self.same(reasons_of(((("a", "a", "b"), 3), (("a", "b"), 1), (("b", "c"), HUGE), (("d",), 1))),
                  (("a", "b"), ("b", "c"), ("d",)))
        self.same(reasons_of(((("a", "a"), 3), (("a", "b"), 1))), (("a",),))

    def test_of_none(self):
        self.same(reasons_of(()), ())
        self.same(reasons_of((((), 1),)), ((),))
        self.same(reasons_of((((), 7), (("a",), 1))), ((),))

    def test_it_is_the_worth_in_reasons(self):
        way = Sums()
        left = way.plus(bare("a"), way.times(bare("b"), bare("b")))
        right = way.plus(way.times(bare("a"), bare("c")), bare("b"))
        marks = {name: ((name,),) for name in "abc"}
        for some in (left, right, way.plus(left, right), way.times(left, right), way.one, way.nought):
            self.same(reasons_of(some), worth(some, Reasons(), marks))
        self.same(reasons_of(way.times(left, right)), Reasons().times(reasons_of(left), reasons_of(right)))
