"""Views: answers that are kept while rows come and go (point 42)."""

from whence.gains import gain
from whence.questions import head_of
from whence.stores import Store
from whence.sums import Sums, bare
from whence.tables import together
from whence.values import struck_in, valued


class View:
    # `base` keeps the rows that stand, `sums` the answer over them.
    def __init__(self, question, heads):
        self.question = question
        self.sums = (head_of(question, heads), {})
        self.base = Store()
        for table in heads:
            self.base.make(table, heads[table])

    def came(self, table, name, row):
        before = self.base.named()
        self.base.put(table, name, row)
        more = {table: (before[table][0], {row: bare(name)})}
        self.sums = together(Sums(), self.sums, gain(Sums(), self.question, before, more))

    def gone(self, name):
        self.base.strike(name)
        self.sums = struck_in(self.sums, name)

    def standing(self):
        return self.base.all_names()

    def told(self):
        return (self.sums[0], dict(self.sums[1]))

    def told_in(self, way, marks):
        return valued(self.sums, way, marks)
