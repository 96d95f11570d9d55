"""What several files ask of plain things, and the plus of many marks."""


# True and False are ints to Python, but no whole numbers here.
def is_whole(thing, least):
    return isinstance(thing, int) and not isinstance(thing, bool) and thing >= least


def is_texts(thing):
    return isinstance(thing, tuple) and all([isinstance(part, str) for part in thing])


# Only for things of one kind: others can not be compared.
def never_falls(things):
    return all([ahead <= behind for ahead, behind in zip(things, things[1:])])


def always_rises(things):
    return all([ahead < behind for ahead, behind in zip(things, things[1:])])


# Two by two, so that no long sum is gone through again for each mark that comes to it.
def plus_all(way, marks):
    left = list(marks)
    if len(left) == 0:
        return way.nought
    while len(left) > 1:
        fewer = [way.plus(left[k], left[k + 1]) for k in range(0, len(left) - 1, 2)]
        if len(left) % 2 == 1:
            fewer.append(left[-1])
        left = fewer
    return left[0]
