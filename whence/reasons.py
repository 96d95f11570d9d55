"""Reasons: the least sets of names (point 15)."""

from whence.plain import is_texts


class Reasons:
    def __init__(self):
        self.nought = ()
        self.one = ((),)

    def plus(self, a, b):
        return least_of(list(a + b))

    def times(self, a, b):
        numbers = numbers_of(a + b)
        others = [(bits_of(reason, numbers), reason) for reason in b]
        unions = {}
        for reason in a:
            here = bits_of(reason, numbers)
            for there, other in others:
                unions[here | there] = (reason, other)
        return tuple(sorted([union_of(unions[union]) for union in least_bits(list(unions))]))

    def is_mark(self, thing):
        if not isinstance(thing, tuple) or not all([is_texts(part) for part in thing]):
            return False
        return least_of(list(thing)) == thing


def union_of(pair):
    return tuple(sorted(set(pair[0]) | set(pair[1])))


def least_of(some):
    numbers = numbers_of(some)
    sets = {}
    for names in some:
        sets[bits_of(names, numbers)] = names
    return tuple(sorted([tuple(sorted(set(sets[kept]))) for kept in least_bits(list(sets))]))


def reasons_of(some):
    return least_of([product for product, many in some])


# A set of names is reckoned with as a whole number, a bit for each name: whether one lies within another one is then
# one step, and there may be millions of such looks. The bits are not kept one by one: of many names they are long.
def numbers_of(some):
    numbers = {}
    for names in some:
        for name in names:
            numbers.setdefault(name, len(numbers))
    return numbers


def bits_of(names, numbers):
    bits = 0
    for name in names:
        bits = bits | (1 << numbers[name])
    return bits


# What lies within another one is a lesser number, so it has been kept, or something within it, by the time the
# other one comes.
def least_bits(sets):
    kept = {}
    for one in sorted(sets):
        if not has_within(kept, one):
            kept.setdefault(one.bit_length(), []).append(one)
    least = []
    for top in kept:
        least.extend(kept[top])
    return least


# The kept sets stand by their topmost name: only those whose topmost name is one of this set's can lie within it.
def has_within(kept, one):
    if 0 in kept:
        return True
    rest = one
    while rest > 0:
        top = rest.bit_length()
        for other in kept.get(top, []):
            if other & one == other:
                return True
        rest = rest - (1 << (top - 1))
    return False
