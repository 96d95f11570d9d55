"""How heads go (point 20)."""

from whence.errors import NoColumn, NoFit


def kept_head(head, columns):
    check_once(columns)
    for column in columns:
        if column not in head:
            raise NoColumn(f"the head has no column {column!r}")
    return tuple(columns)


def check_once(columns):
    if len(set(columns)) != len(columns):
        raise NoColumn("a column stands twice")


def called_head(head, old, new):
    if old not in head:
        raise NoColumn(f"the head has no column {old!r}")
    if new in head and new != old:
        raise NoColumn(f"the head has a column {new!r} already")
    return tuple([new if column == old else column for column in head])


def joined_head(head, other):
    return tuple(head) + tuple([column for column in other if column not in head])


def together_head(head, other):
    if set(head) != set(other):
        raise NoFit("the columns are not the same")
    return tuple(head)
