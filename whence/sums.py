"""Sums of products of names (points 12 to 14)."""

from whence.errors import NoName
from whence.plain import always_rises, is_texts, is_whole, never_falls, plus_all


class Sums:
    def __init__(self):
        self.nought = ()
        self.one = (((), 1),)

    def plus(self, a, b):
        numbers = dict(a)
        for product, many in b:
            numbers[product] = numbers.get(product, 0) + many
        return tuple(sorted(numbers.items()))

    def times(self, a, b):
        numbers = {}
        for product, many in a:
            for other, more in b:
                both = tuple(sorted(product + other))
                numbers[both] = numbers.get(both, 0) + many * more
        return tuple(sorted(numbers.items()))

    def is_mark(self, thing):
        if not isinstance(thing, tuple) or not all([is_entry(part) for part in thing]):
            return False
        return always_rises([part[0] for part in thing])


def is_entry(thing):
    if not isinstance(thing, tuple) or len(thing) != 2:
        return False
    return is_texts(thing[0]) and never_falls(thing[0]) and is_whole(thing[1], 1)


def bare(name):
    return (((name,), 1),)


# So many ones by doubling, and then once times the mark: that is the same by the laws of ways (point 6), and the
# mark, perhaps a long sum, is not gone through again for each doubling.
def times_over(way, many, mark):
    ones = way.nought
    double = way.one
    left = many
    while left > 0:
        if left % 2 == 1:
            ones = way.plus(ones, double)
        double = way.plus(double, double)
        left = left // 2
    return way.times(ones, mark)


def worth(some, way, marks):
    check_names(some, marks)
    return plus_all(way, [times_over(way, many, product_worth(product, way, marks)) for product, many in some])


def check_names(some, marks):
    for name in names_in(some):
        if name not in marks:
            raise NoName(f"no mark is told for {name!r}")


def product_worth(product, way, marks):
    mark = way.one
    for name in product:
        mark = way.times(mark, marks[name])
    return mark


def names_in(some):
    names = []
    for entry in some:
        names.extend(entry[0])
    return sorted(set(names))


def struck(some, name):
    return tuple([entry for entry in some if name not in entry[0]])
