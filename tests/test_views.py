import copy
import random
import unittest

from tests.helper import HEADS, ROWS, WAYS, R, S, Shapes, T, Z, ring, sample_marks, some_questions, store_of, table
from whence.answers import answer
from whence.errors import NoColumn, NoFit, NoName, NoRow, NoTable, Twice
from whence.sums import Sums, bare
from whence.ways import Costs, Counts, Truths
from whence.views import View

N = table("n")
JOIN = ("join", R, S)
# Each column with the other one's values.
SWAPPED = ("call", "q", "b", ("call", "b", "a", ("call", "a", "q", R)))
STEP = ("keep", ("b", "a"), ("join", N, S))


def all_of(view):
    return (view.standing(), view.told())


class Told(unittest.TestCase, Shapes):
    def test_it_begins_without_rows(self):
        for question, head in ((R, ("a", "b")), (JOIN, ("a", "b", "c")), (Z, ()), (("keep", (), R), ()),
                               (ring(2, R, STEP), ("a", "b"))):
            view = View(question, HEADS)
            self.same(view.standing(), [])
            self.same(view.told(), (head, {}))
            self.same(view.told_in(Counts(), {}), (head, {}))

    def test_rows_come(self):
        view = View(JOIN, HEADS)
        self.assertIsNone(view.came("R", "r1", (1, 1)))
        self.same(view.told(), (("a", "b", "c"), {}))
        view.came("S", "s1", (1, 2))
        self.same(view.told(), (("a", "b", "c"), {(1, 1, 2): ((("r1", "s1"), 1),)}))
        view.came("S", "a1", (1, 2))
        self.same(view.told()[1], {(1, 1, 2): ((("a1", "r1"), 1), (("r1", "s1"), 1))})
        self.same(view.standing(), ["a1", "r1", "s1"])
        self.same(view.told_in(Counts(), {"a1": 2, "r1": 3, "s1": 5})[1], {(1, 1, 2): 21})
        self.same(view.told_in(Costs(), {"a1": 2, "r1": 3, "s1": None})[1], {(1, 1, 2): 5})

    def test_a_name_twice_in_a_product(self):
        view = View(("join", R, R), HEADS)
        view.came("R", "x", (1, 1))
        view.came("R", "y", (1, 1))
        self.same(view.told()[1], {(1, 1): ((("x", "x"), 1), (("x", "y"), 2), (("y", "y"), 1))})
        view.gone("x")
        self.same(view.told()[1], {(1, 1): ((("y", "y"), 1),)})

    def test_several_names_one_of_which_goes(self):
        view = View(("keep", ("b",), R), HEADS)
        for name, row in (("x", (1, 1)), ("y", (1, 1)), ("z", (2, 1))):
            view.came("R", name, row)
        self.assertIsNone(view.gone("x"))
        self.same(all_of(view), (["y", "z"], (("b",), {(1,): ((("y",), 1), (("z",), 1))})))
        view.gone("z")
        view.gone("y")
        self.same(all_of(view), ([], (("b",), {})))

    def test_a_name_that_goes_and_comes_again(self):
        view = View(("put", R, SWAPPED), HEADS)
        view.came("R", "x", (1, 2))
        view.gone("x")
        view.came("R", "x", (3, 4))
        self.same(view.told()[1], {(3, 4): bare("x"), (4, 3): bare("x")})
        view.gone("x")
        view.came("Z", "x", ())
        self.same(all_of(view), (["x"], (("a", "b"), {})))
        view.gone("x")
        view.came("R", "x", (1, 2))
        self.same(all_of(view), (["x"], (("a", "b"), {(1, 2): bare("x"), (2, 1): bare("x")})))

    def test_rows_that_are_not_asked(self):
        view = View(R, HEADS)
        view.came("S", "s", (1, 1))
        view.came("E", "e", (1,))
        self.same(all_of(view), (["e", "s"], (("a", "b"), {})))
        self.same(view.told_in(Counts(), {}), (("a", "b"), {}))

    def test_tables_of_no_columns(self):
        view = View(("join", Z, ("keep", (), R)), HEADS)
        view.came("Z", "z", ())
        self.same(view.told(), ((), {}))
        view.came("R", "r", (1, 1))
        self.same(view.told(), ((), {(): ((("r", "z"), 1),)}))
        view.gone("z")
        self.same(view.told(), ((), {}))

    def test_rings(self):
        store, view = store_of([]), View(ring(3, R, STEP), HEADS)
        for name, row in (("r", (1, 2)), ("s", (2, 3)), ("t", (3, 1))):
            for one in (store.put, view.came):
                one("R" if name == "r" else "S", name, row)
            self.same(view.told(), answer(Sums(), ring(3, R, STEP), store.named()))
        view = View(ring(0, R, STEP), HEADS)
        view.came("R", "r", (1, 2))
        view.came("S", "s", (2, 3))
        self.same(view.told(), (("a", "b"), {(1, 2): bare("r")}))

    def test_great_tables(self):
        # Sixty rows by one another's side; thirty of them meet thirty.
        view, store = View(("keep", (), ("join", R, S)), HEADS), store_of([])
        for k in range(30):
            for one in (store.put, view.came):
                one("R", f"r{k}", (k, 0))
                one("S", f"s{k}", (0, k))
        self.same(view.told_in(Counts(), {name: 1 for name in view.standing()}), ((), {(): 900}))
        self.same(view.told(), answer(Sums(), ("keep", (), ("join", R, S)), store.named()))


class Deeds(unittest.TestCase, Shapes):
    def holds(self, view, store, question, k):
        self.same(view.standing(), store.all_names())
        self.same(view.told(), answer(Sums(), question, store.named()), question)
        for way, some in (WAYS[k % len(WAYS)], WAYS[(k + 4) % len(WAYS)]):
            marks = sample_marks(way, some + [way.nought], store.all_names(), k)
            self.same(view.told_in(way, marks), answer(way, question, store.marked(way, marks)), question)

    def test_a_row_of_deeds(self):
        rng = random.Random(43)
        for question in some_questions(43, 40, 4):
            store, view, away = store_of([]), View(question, HEADS), list(ROWS)
            for k in range(18):
                if away and rng.randrange(4):
                    deed = away.pop(rng.randrange(len(away)))
                    store.put(*deed)
                    view.came(*deed)
                elif store.all_names():
                    name = rng.choice(store.all_names())
                    away.append((store.row_of(name)[0], name, store.row_of(name)[1]))
                    store.strike(name)
                    view.gone(name)
                self.holds(view, store, question, k)


class Refused(unittest.TestCase, Shapes):
    def view(self):
        view = View(JOIN, HEADS)
        for table, name, row in (("R", "r1", (1, 1)), ("S", "s1", (1, 2)), ("Z", "z1", ())):
            view.came(table, name, row)
        return view

    def stays(self, error, ask, *handed):
        """Refused, and the view is as it was."""
        view = self.view()
        before = all_of(view)
        self.refuses(error, lambda *some: ask(view, *some), *handed)
        self.same(all_of(view), before)
        view.came("R", "r2", (2, 1))
        self.same(view.told()[1], {(1, 1, 2): ((("r1", "s1"), 1),), (2, 1, 2): ((("r2", "s1"), 1),)})

    def test_a_view_as_head_of(self):
        self.refuses(NoTable, View, table("X"), HEADS)
        self.refuses(NoTable, View, N, {})
        self.refuses(NoColumn, View, ("keep", ("z",), R), HEADS)
        self.refuses(NoColumn, View, ("pick", ("is", "z", 1), R), HEADS)
        self.refuses(NoFit, View, ("put", R, S), HEADS)
        self.refuses(NoFit, View, ring(0, R, S), HEADS)
        self.refuses(Twice, View, ring(0, table("X"), R, "R"), HEADS)

    def test_came(self):
        self.stays(NoTable, View.came, "X", "x", (1, 1))
        self.stays(Twice, View.came, "R", "r1", (1, 1))
        self.stays(Twice, View.came, "R", "s1", (5, 5))
        self.stays(NoRow, View.came, "R", "x", (1,))
        self.stays(NoRow, View.came, "R", "x", (1, 1, 1))
        self.stays(NoRow, View.came, "R", "x", ())
        self.stays(NoRow, View.came, "Z", "x", (1,))
        # In this order.
        self.stays(NoTable, View.came, "X", "r1", ())
        self.stays(Twice, View.came, "R", "r1", ())

    def test_a_ring_s_name_is_no_table(self):
        view = View(ring(2, R, STEP), HEADS)
        self.refuses(NoTable, view.came, "n", "x", (1, 1))

    def test_gone(self):
        self.stays(NoName, View.gone, "x")
        self.stays(NoName, View.gone, "R")
        view = self.view()
        view.gone("r1")
        self.refuses(NoName, view.gone, "r1")
        self.same(all_of(view), (["s1", "z1"], (("a", "b", "c"), {})))

    def test_told_in(self):
        self.stays(NoName, View.told_in, Counts(), {})
        self.stays(NoName, View.told_in, Counts(), {"r1": 1})
        self.stays(NoName, View.told_in, Truths(), {"s1": False, "z1": True})
        # z1 stands in no sum.
        self.same(self.view().told_in(Counts(), {"r1": 2, "s1": 3})[1], {(1, 1, 2): 6})
        self.same(self.view().told_in(Counts(), {"r1": 0, "s1": 3, "more": 1})[1], {})


class Own(unittest.TestCase, Shapes):
    def test_heads_that_are_changed_behind(self):
        heads = copy.deepcopy(HEADS)
        view = View(("keep", ("b",), ("join", R, T)), heads)
        self.same(heads, HEADS)
        heads["X"], heads["R"] = (), ("q",)
        heads.pop("T")
        self.refuses(NoTable, view.came, "X", "x", ())
        view.came("R", "r", (1, 2))
        view.came("T", "t", (3, 1))
        self.same(view.told(), (("b",), {(2,): ((("r", "t"), 1),)}))

    def test_what_was_told_changed_behind(self):
        view = View(R, HEADS)
        view.came("R", "r", (1, 2))
        wanted = (("a", "b"), {(1, 2): bare("r")})
        for change in (lambda: view.told()[1].clear(), lambda: view.standing().append("x"),
                       lambda: view.told_in(Sums(), {"r": bare("r")})[1].clear()):
            change()
            self.same(all_of(view), (["r"], wanted))
            self.same(view.told_in(Sums(), {"r": bare("r")}), wanted)
        told, names = view.told(), view.standing()
        view.came("R", "q", (1, 2))
        view.gone("r")
        self.same((told, names), (wanted, ["r"]))

    def test_marks_are_not_changed(self):
        view, marks = View(R, HEADS), {"r": 4, "x": 1}
        view.came("R", "r", (1, 2))
        view.told_in(Counts(), marks)
        self.same(marks, {"r": 4, "x": 1})

    def test_two_views_do_not_touch(self):
        one, other = View(R, HEADS), View(R, HEADS)
        one.came("R", "r", (1, 2))
        self.same(all_of(other), ([], (("a", "b"), {})))
        other.came("R", "r", (3, 4))
        self.same(one.told()[1], {(1, 2): bare("r")})
