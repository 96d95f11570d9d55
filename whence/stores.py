"""Stores: tables of rows that have names (points 23 to 26)."""

from whence.errors import NoMark, NoName, NoRow, NoTable, Twice
from whence.heads import check_once
from whence.sums import Sums, bare
from whence.tables import put_together


class Store:
    # `made` tells each table's head, `placed` each name's table and row.
    def __init__(self):
        self.made = {}
        self.placed = {}

    def make(self, table, head):
        if table in self.made:
            raise Twice(f"there is a table {table!r} already")
        check_once(head)
        self.made[table] = tuple(head)

    def put(self, table, name, row):
        self.check_table(table)
        if name in self.placed:
            raise Twice(f"the name {name!r} stands on a row already")
        if len(row) != len(self.made[table]):
            raise NoRow("the row is not as long as the head")
        self.placed[name] = (table, tuple(row))

    def check_table(self, table):
        if table not in self.made:
            raise NoTable(f"there is no table {table!r}")

    def strike(self, name):
        self.check_name(name)
        self.placed.pop(name)

    def check_name(self, name):
        if name not in self.placed:
            raise NoName(f"the name {name!r} stands on no row")

    def heads(self):
        return dict(self.made)

    def names(self, table):
        self.check_table(table)
        return sorted([name for name in self.placed if self.placed[name][0] == table])

    def all_names(self):
        return sorted(self.placed)

    def row_of(self, name):
        self.check_name(name)
        return self.placed[name]

    def twin(self):
        other = Store()
        other.made = dict(self.made)
        other.placed = dict(self.placed)
        return other

    def marked(self, way, marks):
        pairs = dict([(table, []) for table in self.made])
        for name in self.all_names():
            place = self.placed[name]
            pairs[place[0]].append((place[1], mark_told(name, way, marks)))
        return dict([(table, (self.made[table], put_together(way, pairs[table]))) for table in self.made])

    def named(self):
        return self.marked(Sums(), dict([(name, bare(name)) for name in self.placed]))


def mark_told(name, way, marks):
    if name not in marks:
        raise NoName(f"no mark is told for {name!r}")
    if not way.is_mark(marks[name]):
        raise NoMark(f"what is told for {name!r} is no mark of the way")
    return marks[name]
