import copy
import random
import unittest

from tests.helper import (A, B, HEADS, PLAIN, ROWS, SEERS, VALUES, WAYS, Shapes, all_of, put_slowly, sample_marks,
                          sample_store)
from whence.errors import NoColumn, NoMark, NoName, NoRow, NoTable, Twice
from whence.stores import Store
from whence.sums import Sums, bare
from whence.ways import Costs, Counts, Pairs, Rounds, Truths


class Deeds(unittest.TestCase, Shapes):
    def stays(self, error, store, ask, *handed):
        """Refused, and nothing has changed."""
        before = copy.deepcopy(all_of(store))
        self.refuses(error, ask, *handed)
        self.same(all_of(store), before)

    def test_a_new_store_is_empty(self):
        store = Store()
        self.same(store.heads(), {})
        self.same(store.all_names(), [])
        self.same(store.marked(Counts(), {}), {})
        self.same(store.named(), {})

    def test_a_row_of_deeds(self):
        store = Store()
        self.assertIsNone(store.make("R", ("a", "b")))
        self.same(store.heads(), {"R": ("a", "b")})
        self.same(store.names("R"), [])
        self.same(store.named(), {"R": (("a", "b"), {})})
        self.assertIsNone(store.put("R", "y", (1, "u")))
        self.assertIsNone(store.put("R", "x", (2, "u")))
        self.assertIsNone(store.make("S", ()))
        self.assertIsNone(store.put("S", "w", ()))
        self.same(store.heads(), {"R": ("a", "b"), "S": ()})
        self.same(store.names("R"), ["x", "y"])
        self.same(store.names("S"), ["w"])
        self.same(store.all_names(), ["w", "x", "y"])
        self.same(store.row_of("x"), ("R", (2, "u")))
        self.same(store.row_of("w"), ("S", ()))
        self.assertIsNone(store.strike("y"))
        self.same(store.all_names(), ["w", "x"])
        self.same(store.named(), {"R": (("a", "b"), {(2, "u"): bare("x")}), "S": ((), {(): bare("w")})})
        self.assertIsNone(store.put("S", "y", ()))
        self.same(store.row_of("y"), ("S", ()))
        self.same(store.names("S"), ["w", "y"])

    def test_a_row_by_several_names_one_of_which_is_struck(self):
        store = Store()
        store.make("R", ("a",))
        for name in ("x", "y", "z"):
            store.put("R", name, (1,))
        self.same(store.named(), {"R": (("a",), {(1,): ((("x",), 1), (("y",), 1), (("z",), 1))})})
        store.strike("y")
        self.same(store.names("R"), ["x", "z"])
        self.same(store.named(), {"R": (("a",), {(1,): ((("x",), 1), (("z",), 1))})})
        store.strike("x")
        self.same(store.row_of("z"), ("R", (1,)))
        self.same(store.named(), {"R": (("a",), {(1,): bare("z")})})
        store.strike("z")
        self.same(store.named(), {"R": (("a",), {})})
        self.same(store.heads(), {"R": ("a",)})

    def test_struck_and_put_again(self):
        store = sample_store()
        store.strike("r1")
        self.stays(NoName, store, store.row_of, "r1")
        self.stays(NoName, store, store.strike, "r1")
        store.put("S", "r1", (5, 6))
        self.same(store.row_of("r1"), ("S", (5, 6)))
        self.stays(Twice, store, store.put, "R", "r1", (1, 1))
        store.strike("r1")
        store.put("R", "r1", (1, 1))
        self.same(all_of(store), all_of(sample_store()))

    def test_a_number_and_a_text_stay_apart(self):
        store = Store()
        store.make("R", ("a",))
        store.put("R", "x", (1,))
        store.put("R", "y", ("1",))
        self.same(store.named(), {"R": (("a",), {(1,): bare("x"), ("1",): bare("y")})})

    def test_names_come_sorted_sign_by_sign(self):
        store = Store()
        store.make("R", ("a",))
        for name in ("b", "a10", "a9", "B", "", "~", " "):
            store.put("R", name, (name,))
        self.same(store.names("R"), ["", " ", "B", "a10", "a9", "b", "~"])
        self.same(store.all_names(), ["", " ", "B", "a10", "a9", "b", "~"])

    def test_a_table_and_a_name_may_be_called_alike(self):
        store = Store()
        store.make("x", ("x",))
        store.put("x", "x", ("x",))
        self.same(store.row_of("x"), ("x", ("x",)))

    def test_make_refuses(self):
        store = sample_store()
        self.stays(Twice, store, store.make, "R", ("n",))
        self.stays(Twice, store, store.make, "E", HEADS["E"])
        self.stays(Twice, store, store.make, "R", ("n", "n"))
        self.stays(NoColumn, store, store.make, "N", ("n", "n"))
        self.stays(NoColumn, store, store.make, "N", ("n", "m", "n"))
        store.make("N", ("n", "m"))
        self.same(store.heads(), {**HEADS, "N": ("n", "m")})

    def test_put_refuses(self):
        store = sample_store()
        for row in ((1, 1), (1,), ()):
            self.stays(NoTable, store, store.put, "N", "new", row)
            self.stays(NoTable, store, store.put, "N", "r1", row)
            self.stays(NoTable, store, store.put, "r1", "r1", row)
            self.stays(Twice, store, store.put, "R", "r1", row)
            self.stays(Twice, store, store.put, "S", "r1", row)
            self.stays(Twice, store, store.put, "Z", "r1", row)
        for row in ((), (1,), (1, 2, 3)):
            self.stays(NoRow, store, store.put, "R", "new", row)
        self.stays(NoRow, store, store.put, "Z", "new", (1,))
        store.put("R", "new", (1, 2))
        self.same(store.row_of("new"), ("R", (1, 2)))

    def test_strike_and_row_of_refuse(self):
        store = sample_store()
        for name in ("r9", "", "R", "R1"):
            self.stays(NoName, store, store.strike, name)
            self.stays(NoName, store, store.row_of, name)
        self.refuses(NoName, Store().strike, "r1")
        self.refuses(NoName, Store().row_of, "r1")

    def test_names_refuses(self):
        store = sample_store()
        for table in ("N", "", "r1", "r"):
            self.stays(NoTable, store, store.names, table)
        self.refuses(NoTable, Store().names, "R")

    def test_what_is_told_is_the_askers_own(self):
        store = sample_store()
        before = copy.deepcopy(all_of(store))
        told = all_of(store)
        told[0].clear()
        told[1]["R"].append("q")
        told[2].clear()
        told[4]["R"][1].clear()
        told[4].clear()
        store.marked(Counts(), sample_marks(Counts(), [1], store.all_names()))["R"][1].clear()
        self.same(all_of(store), before)

    def test_what_is_told_stays(self):
        store = sample_store()
        told = all_of(store)
        before = copy.deepcopy(told)
        store.strike("r1")
        store.strike("z1")
        store.make("N", ("n",))
        store.put("R", "q", (7, 7))
        self.same(told, before)

    def test_many_deeds_against_a_plain_list(self):
        rng = random.Random(11)
        store, kept = Store(), []
        for table, head in HEADS.items():
            store.make(table, head)
        for deed in range(400):
            name = f"n{rng.randrange(20)}"
            if name in [entry[1] for entry in kept]:
                store.strike(name)
                kept = [entry for entry in kept if entry[1] != name]
            else:
                table = rng.choice(sorted(HEADS))
                row = tuple([rng.choice(VALUES) for column in HEADS[table]])
                store.put(table, name, row)
                kept.append((table, name, row))
            self.same(store.all_names(), sorted([entry[1] for entry in kept]))
            for table in HEADS:
                self.same(store.names(table), sorted([entry[1] for entry in kept if entry[0] == table]))
                pairs = [(entry[2], bare(entry[1])) for entry in kept if entry[0] == table]
                self.same(store.named()[table], (HEADS[table], put_slowly(Sums(), pairs)))
            for table, name, row in kept:
                self.same(store.row_of(name), (table, row))


class Twins(unittest.TestCase, Shapes):
    def test_a_twin_has_the_same(self):
        for store in (Store(), sample_store()):
            self.assertIsInstance(store.twin(), Store)
            self.same(all_of(store.twin()), all_of(store))

    def test_neither_changes_the_other(self):
        for changed in (0, 1):
            store = sample_store()
            pair = (store, store.twin())
            pair[changed].strike("r1")
            pair[changed].put("R", "new", (3, 3))
            pair[changed].make("N", ("n",))
            pair[changed].put("N", "more", (1,))
            self.same(all_of(pair[1 - changed]), all_of(sample_store()))
            self.same(pair[changed].names("R"), ["new", "r2", "r3", "r4"])
            self.same(pair[changed].names("N"), ["more"])

    def test_a_twin_of_a_twin_goes_on_by_itself(self):
        one = sample_store()
        other = one.twin()
        third = other.twin()
        other.strike("r1")
        third.strike("r2")
        self.same(one.names("R"), ["r1", "r2", "r3", "r4"])
        self.same(other.names("R"), ["r2", "r3", "r4"])
        self.same(third.names("R"), ["r1", "r3", "r4"])

    def test_a_twin_refuses_likewise(self):
        twin = sample_store().twin()
        self.refuses(Twice, twin.make, "R", ("n",))
        self.refuses(Twice, twin.put, "S", "r1", (1, 1))
        self.refuses(NoName, twin.strike, "q")


class Marked(unittest.TestCase, Shapes):
    def test_ordinary(self):
        store = Store()
        store.make("R", ("a",))
        store.make("S", ("a", "b"))
        store.put("R", "x", (1,))
        store.put("R", "y", (2,))
        store.put("R", "z", (1,))
        store.put("S", "w", (1, 2))
        self.same(store.marked(Counts(), {"x": 2, "y": 3, "z": 5, "w": 7}),
                  {"R": (("a",), {(1,): 7, (2,): 3}), "S": (("a", "b"), {(1, 2): 7})})
        self.same(store.marked(Costs(), {"x": 2, "y": 3, "z": 5, "w": 0}),
                  {"R": (("a",), {(1,): 2, (2,): 3}), "S": (("a", "b"), {(1, 2): 0})})

    def test_noughts_are_left_out(self):
        store = sample_store()
        marks = sample_marks(Rounds(2), [1], store.all_names())
        told = store.marked(Rounds(2), marks)
        self.same(told["R"], (("a", "b"), {(1, "1"): 1, (2, 1): 1}))
        self.same(told["Z"], ((), {}))
        self.same(told["E"], (("b",), {}))
        told = store.marked(Counts(), {**sample_marks(Counts(), [1], store.all_names()), "r1": 0, "r4": 0, "r2": 0})
        self.same(told["R"], (("a", "b"), {(2, 1): 1}))
        told = store.marked(Costs(), {**sample_marks(Costs(), [3], store.all_names()), "r1": None, "r2": None})
        self.same(told["R"], (("a", "b"), {(1, 1): 3, (2, 1): 3}))

    def test_each_way(self):
        store = sample_store()
        for way, some in WAYS:
            for first in (0, 1):
                marks = sample_marks(way, some, store.all_names(), first)
                told = store.marked(way, marks)
                self.same(sorted(told), sorted(HEADS))
                for table in HEADS:
                    pairs = [(row, marks[name]) for home, name, row in ROWS if home == table]
                    self.same(told[table], (HEADS[table], put_slowly(way, pairs)))

    def test_named_is_marked_with_bare_names(self):
        store = sample_store()
        self.same(store.named(), store.marked(Sums(), {name: bare(name) for name in store.all_names()}))
        self.same(store.named()["R"], (("a", "b"), {(1, 1): ((("r1",), 1), (("r4",), 1)), (1, "1"): bare("r2"),
                                                    (2, 1): bare("r3")}))

    def test_what_else_stands_in_the_marks_is_not_looked_at(self):
        store = Store()
        store.make("R", ("a",))
        store.put("R", "x", (1,))
        self.same(store.marked(Counts(), {"x": 2, "y": "no mark", "R": -1, 5: None}), {"R": (("a",), {(1,): 2})})

    def test_refused_name_by_name_in_sorted_order(self):
        store = Store()
        store.make("S", ("a",))
        store.make("R", ("a",))
        for table, name in (("R", "d"), ("S", "b"), ("R", "a"), ("S", "c")):
            store.put(table, name, (1,))
        for marks, error in (({}, NoName), ({"a": 1, "b": 1, "c": 1}, NoName), ({"b": 1, "c": 1, "d": 1}, NoName),
                             ({"a": -1}, NoMark), ({"a": 1, "b": True}, NoMark), ({"b": -1}, NoName),
                             ({"a": 1, "c": -1, "d": 1}, NoName), ({"a": 1, "b": -1, "d": 1}, NoMark),
                             ({"a": 1, "b": 1, "c": 1, "d": None}, NoMark), ({"a": 1, "b": 1, "d": -1}, NoName),
                             ({"a": 1, "b": 1, "c": "", "x": 1}, NoMark)):
            before = copy.deepcopy(all_of(store))
            self.refuses(error, store.marked, Counts(), marks)
            self.same(all_of(store), before)
            told = {"a": 1, "b": 1, "c": 1, "d": 1}
            self.same(store.marked(Counts(), told), {"R": (("a",), {(1,): 2}), "S": (("a",), {(1,): 2})})

    def test_whatever_is_no_mark_is_refused(self):
        store = Store()
        store.make("R", ("a",))
        store.put("R", "x", (1,))
        for way in (Truths(), Counts(), Rounds(3), Costs(), SEERS, Pairs(Truths(), Costs()), Sums()):
            for thing in PLAIN:
                if way.is_mark(thing):
                    store.marked(way, {"x": thing})
                else:
                    with self.assertRaises(NoMark):
                        store.marked(way, {"x": thing})

    def test_the_marks_stay_and_may_be_changed_later(self):
        store = sample_store()
        marks = sample_marks(Counts(), [1, 2], store.all_names())
        before = dict(marks)
        told = store.marked(Counts(), marks)
        self.same(marks, before)
        wanted = copy.deepcopy(told)
        marks.clear()
        self.same(told, wanted)

    def test_sums_of_names_that_stand_elsewhere(self):
        store = Store()
        store.make("R", ("a",))
        store.put("R", "x", (1,))
        store.put("R", "y", (1,))
        self.same(store.marked(Sums(), {"x": A, "y": B}), {"R": (("a",), {(1,): Sums().plus(A, B)})})

    def test_to_strike_a_row_is_to_put_nought_for_its_name(self):
        for way, some in WAYS:
            store = sample_store()
            marks = sample_marks(way, some, store.all_names())
            for name in store.all_names():
                twin = store.twin()
                twin.strike(name)
                self.same(twin.marked(way, marks), store.marked(way, {**marks, name: way.nought}))

    def test_sixty_rows(self):
        store = Store()
        head = tuple([f"c{k}" for k in range(12)])
        store.make("R", head)
        for k in range(60):
            store.put("R", f"n{k}", tuple([k // 2] * 12))
        told = store.marked(Counts(), {f"n{k}": k for k in range(60)})
        self.same(told, {"R": (head, {tuple([k] * 12): 4 * k + 1 for k in range(30)})})
