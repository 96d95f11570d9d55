"""Tests that rows pass or not (point 21)."""

from whence.errors import NoColumn


def columns_of(test):
    return sorted(set(columns_told(test)))


# Each as often as it is told, from the left.
def columns_told(test):
    if test[0] == "is":
        return [test[1]]
    if test[0] == "same":
        return [test[1], test[2]]
    columns = []
    for part in test[1:]:
        columns.extend(columns_told(part))
    return columns


# Apart from passing, since a test is refused also where there is no row to pass it.
def check_columns(test, head):
    for column in columns_of(test):
        if column not in head:
            raise NoColumn(f"the test has a column {column!r}, the head has not")


def passes(test, head, row):
    check_columns(test, head)
    return holds(test, head, row)


# Of a test whose columns are all in the head.
def holds(test, head, row):
    word = test[0]
    if word == "is":
        return row[head.index(test[1])] == test[2]
    if word == "same":
        return row[head.index(test[1])] == row[head.index(test[2])]
    if word == "not":
        return not holds(test[1], head, row)
    if word == "and":
        return holds(test[1], head, row) and holds(test[2], head, row)
    return holds(test[1], head, row) or holds(test[2], head, row)


def test_called(test, old, new):
    word = test[0]
    if word == "is":
        return (word, column_called(test[1], old, new), test[2])
    if word == "same":
        return (word, column_called(test[1], old, new), column_called(test[2], old, new))
    return tuple([word] + [test_called(part, old, new) for part in test[1:]])


def column_called(column, old, new):
    return new if column == old else column
