"""Why rows are there, and why not (points 46 and 47)."""

from whence.answers import answer
from whence.errors import NoAnswer
from whence.reasons import Reasons
from whence.tables import mark_of


def whys(question, store, row):
    return reasons_out_of(question, store, store.all_names(), row)


def why(question, store, row):
    return first_of(whys(question, store, row))


def why_nots(question, store, stock, row):
    both = store.twin()
    for table, name, coming in stock:
        both.put(table, name, coming)
    return reasons_out_of(question, both, [name for table, name, coming in stock], row)


def why_not(question, store, stock, row):
    return first_of(why_nots(question, store, stock, row))


# The row's mark where each of these names has the reason of itself alone, and the others need none.
def reasons_out_of(question, store, names, row):
    way = Reasons()
    marks = dict([(name, way.one) for name in store.all_names()])
    for name in names:
        marks[name] = ((name,),)
    return mark_of(way, answer(way, question, store.marked(way, marks)), row)


def first_of(reasons):
    if len(reasons) == 0:
        raise NoAnswer("there is no such set of names")
    return reasons[0]
