"""Trees: the ways in which rows come, from named rows up (points 43 to 45)."""

from whence.answers import answer_by_word
from whence.errors import NoAnswer
from whence.questions import head_of, parts_of, told_from_parts, told_through
from whence.rings import unrolled
from whence.tables import mark_of, places_of, rows_by, values_at
from whence.ways import Costs, Truths

# Which word of a question each form of a tree is for.
FORMS = {"row": "table", "pick": "pick", "keep": "keep", "call": "call", "join": "join", "first": "put",
         "second": "put"}


def trees(question, store, row):
    top = node_of(Truths(), question, all_there(store))
    if row not in top[1][1]:
        return []
    placed = names_by_place(store)

    def tell(here, below):
        return trees_by_row(here, below, placed)
    return told_through(with_sources(top, [row]), below_sources, tell)[row]


def all_there(store):
    return store.marked(Truths(), dict([(name, True) for name in store.all_names()]))


def names_by_place(store):
    placed = {}
    for name in store.all_names():
        placed.setdefault(store.row_of(name), []).append(name)
    return placed


# A node is a tuple of a part of the unrolled question, its answer, and the list of the nodes of its parts.
def node_of(way, question, tables):
    def tell(part, below):
        if part[0] == "table":
            return (part, tables[part[1]], [])
        return (part, answer_by_word(way, part, [node[1] for node in below]), below)
    return told_from_parts(unrolled(question), tell)


# For each of some rows of a node's answer, the list of its sources: the ways in which it comes from rows of the parts'
# answers. A source is a tuple of a tree's form and a list of pairs (which part, which row of it). A table's rows have
# none: they come by names.
def sources(node, rows):
    word = node[0][0]
    if word == "table":
        return dict([(row, []) for row in rows])
    if word == "keep":
        return keep_sources(node, rows)
    if word == "join":
        return join_sources(node, rows)
    if word == "put":
        return dict([(row, put_sources(node, row)) for row in rows])
    return dict([(row, [(word, [(0, row)])]) for row in rows])


def keep_sources(node, rows):
    below = node[2][0][1]
    groups = rows_by(below, places_of(below[0], node[0][1]))
    told = {}
    for row in rows:
        told[row] = [("keep", [(0, lower)]) for lower in groups[row]]
    return told


def join_sources(node, rows):
    head = node[1][0]
    left = places_of(head, node[2][0][1][0])
    right = places_of(head, node[2][1][1][0])
    return dict([(row, [("join", [(0, values_at(row, left)), (1, values_at(row, right))])]) for row in rows])


def put_sources(node, row):
    one = node[2][0][1]
    other = node[2][1][1]
    told = []
    if row in one[1]:
        told.append(("first", [(0, row)]))
    turned = values_at(row, places_of(one[0], other[0]))
    if turned in other[1]:
        told.append(("second", [(1, turned)]))
    return told


def with_sources(node, rows):
    return (node, sources(node, rows))


# Only rows that some wanted row comes from are looked at, each once, however often it is come from.
def below_sources(here):
    wanted = [{} for node in here[0][2]]
    for row in here[1]:
        for form, lower in here[1][row]:
            for k, below in lower:
                wanted[k][below] = True
    return [with_sources(node, list(rows)) for node, rows in zip(here[0][2], wanted)]


def trees_by_row(here, below, placed):
    part = here[0][0]
    told = {}
    for row in here[1]:
        if part[0] == "table":
            told[row] = [("row", name) for name in placed[(part[1], row)]]
        else:
            told[row] = trees_from(here[1][row], below)
    return told


def trees_from(row_sources, below):
    told = []
    for form, lower in row_sources:
        told.extend(trees_of_form(form, [below[k][row] for k, row in lower]))
    return told


def trees_of_form(form, choices):
    told = [(form,)]
    for choice in choices:
        longer = []
        for begun in told:
            longer.extend([begun + (tree,) for tree in choice])
        told = longer
    return told


# Reckoned as the answer of the question out of the tree's rows alone: the row that comes then, if one does.
def brought(tree, question, store):
    def tell(here, below):
        return table_brought(here, below, store)
    rows = list(told_through((unrolled(question), tree), below_tree, tell)[1])
    return rows[0] if len(rows) > 0 else None


def below_tree(here):
    part = here[0]
    tree = here[1]
    form = tree[0]
    if FORMS[form] != part[0] or form == "row":
        return []
    # All else is of the first part, or of both.
    if form == "second":
        return [(part[2], tree[1])]
    return list(zip(parts_of(part), tree[1:]))


def table_brought(here, below, store):
    part = here[0]
    form = here[1][0]
    if FORMS[form] != part[0]:
        return no_rows(part, store)
    if form == "row":
        return named_row(part, here[1][1], store)
    if form == "first":
        return below[0]
    if form == "second":
        return answer_by_word(Truths(), part, [no_rows(part[1], store), below[0]])
    return answer_by_word(Truths(), part, below)


def no_rows(part, store):
    return (head_of(part, store.heads()), {})


def named_row(part, name, store):
    head = store.heads()[part[1]]
    if name not in store.names(part[1]):
        return (head, {})
    return (head, {store.row_of(name)[1]: True})


def tree_product(tree):
    ahead = [tree]
    names = []
    while len(ahead) > 0:
        here = ahead.pop()
        if here[0] == "row":
            names.append(here[1])
        else:
            ahead.extend(here[1:])
    return tuple(sorted(names))


def cheapest(question, store, costs, row):
    top = node_of(Costs(), question, store.marked(Costs(), costs))
    if mark_of(Costs(), top[1], row) is None:
        raise NoAnswer("the row comes at no cost")
    placed = names_by_place(store)

    def tell(here, below):
        if here[0][0][0] == "table":
            return ("row", cheapest_name(here[0], here[1], costs, placed))
        return tuple([here[2][0]] + below)
    return told_through(with_cheapest(top, row), below_cheapest, tell)


# A tuple of the node, the row, and that one of the row's sources (None at a table) of which its mark comes.
def with_cheapest(node, row):
    for source in sources(node, [row])[row]:
        if source_cost(node, source) == node[1][1][row]:
            return (node, row, source)
    return (node, row, None)


def source_cost(node, source):
    return sum([node[2][k][1][1][row] for k, row in source[1]])


def below_cheapest(here):
    if here[2] is None:
        return []
    return [with_cheapest(here[0][2][k], row) for k, row in here[2][1]]


# Some name's cost is the row's mark, since that is the least of them.
def cheapest_name(node, row, costs, placed):
    return [name for name in placed[(node[0][1], row)] if costs[name] == node[1][1][row]][0]
