"""Fewest names that strike reasons, and trees of cases that show that no fewer do (points 48 and 49)."""


def shows(tree, reasons, budget, kept):
    form = tree[0]
    if form == "apart":
        return len(tree[1]) > budget and are_apart(tree[1], reasons, kept)
    reason = tree[1]
    if reason not in reasons:
        return False
    free = free_names(reason, kept)
    if form == "fast":
        return len(free) == 0
    return len(tree[2]) == len(free) and all_show(tree[2], free, reasons, budget, kept)


def are_apart(some, reasons, kept):
    names = []
    for reason in some:
        names.extend(free_names(reason, kept))
    return len(set(some) - set(reasons)) == 0 and has_each_once(some) and has_each_once(names)


def has_each_once(things):
    return len(set(things)) == len(things)


def all_show(cases, names, reasons, budget, kept):
    shown = [shows(case, without(name, reasons), budget - 1, kept) for case, name in zip(cases, names)]
    return all(shown)


def free_names(reason, kept):
    return [name for name in reason if name not in kept]


def without(name, reasons):
    return tuple([reason for reason in reasons if name not in reason])


def fewest(reasons, most, kept):
    tree = None
    for budget in range(most + 1):
        told = searched(reasons, budget, kept)
        if told[0] is not None:
            return (tuple(sorted(told[0])), tree)
        tree = told[1]
    return (None, tree)


# A tuple of a list of at most so many names that strike the reasons, and None; or of None, and a tree of cases that
# shows that there are none such.
def searched(reasons, budget, kept):
    if len(reasons) == 0:
        return ([], None)
    short = shortest_first(reasons, kept)[0]
    if len(free_names(short, kept)) == 0:
        return (None, ("fast", short))
    apart = some_apart(reasons, kept)
    if len(apart) > budget:
        return (None, ("apart", apart))
    cases = []
    # One of these must be among the names that strike; the fewer there are, the fewer cases.
    for name in free_names(short, kept):
        told = searched(without(name, reasons), budget - 1, kept)
        if told[0] is not None:
            return (told[0] + [name], None)
        cases.append(told[1])
    return (None, ("split", short, tuple(cases)))


def shortest_first(reasons, kept):
    return sorted(reasons, key=lambda reason: len(free_names(reason, kept)))


# The shortest first, since they leave more names to others.
def some_apart(reasons, kept):
    taken = {}
    apart = []
    for reason in shortest_first(reasons, kept):
        free = free_names(reason, kept)
        if not any([name in taken for name in free]):
            apart.append(reason)
            taken.update([(name, True) for name in free])
    return tuple(apart)
