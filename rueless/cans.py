"""Cans, from which sizes are taken until too little is left."""

from itertools import combinations

from rueless.errors import BadShape, Refused
from rueless.houses import house_of
from rueless.plain import is_integer, is_sequence
from rueless.shapes import RUELESS, Shape, needed_ways
from rueless.trades import KINDS, Trade

MOST_SIZE = 9


class Cans(Shape):
    """Stand s is a can with s left; a comer of a kind takes its size."""

    def __init__(self, sizes, greatest):
        if not is_sequence(sizes) or not 1 <= len(sizes) <= len(KINDS) or not all([_is_size(size) for size in sizes]):
            raise BadShape(0)
        if not all([one < two for one, two in zip(sizes, sizes[1:])]):
            raise BadShape(0)
        if not _is_size(greatest):
            raise BadShape(1)
        stands = range(greatest + 1)
        comers = {kind: [left - size if left >= size else None for left in stands] for kind, size in zip(KINDS, sizes)}
        names = tuple([str(left) for left in stands])
        Shape.__init__(self, Trade(greatest + 1, comers), names, ("cans", tuple(sizes), greatest), {})
        self._counting = [size for size in sizes if size <= greatest]
        self._kinds = {size: kind for kind, size in zip(KINDS, sizes)}
        self._greatest = greatest

    def verdict(self):
        if _is_chain(self._counting) or len(self._counting) <= 2:
            return RUELESS
        for a, b, c in combinations(self._counting, 3):
            if not _is_chain([a, b, c]) and c + a - 1 <= self._greatest:
                q, u, v = _story_of(a, b, c)
                return ("rueful", self._kinds[a], b, q, self._row(u), self._row(v))
        return ("silent",)

    def _row(self, sizes):
        return "".join([self._kinds[size] for size in sizes])

    def measure(self, house):
        house = house_of(self.trade, house)
        if not _is_chain(self._counting) and len(self._counting) > 2:
            raise Refused(0)
        return self._measure(house)

    def _measure(self, house):
        if _is_chain(self._counting):
            return tuple([sum([left // size for left in house]) for size in self._counting])
        return _most_beside(self._counting[0], self._counting[1], house)

    def is_within(self, house, other):
        one = self.measure(house)
        two = self.measure(other)
        return len(one) <= len(two) and all([x <= y for x, y in zip(one, two)])

    def choice(self, house, kind):
        best = None
        for stand, behind in needed_ways(self, house, kind):
            measure = self._measure(behind)
            # Of the measures one is nowhere less than the others, so it is the greatest tuple.
            if best is None or measure > best[0]:
                best = (measure, stand)
        return None if best is None else best[1]


def _is_size(value):
    return is_integer(value) and 1 <= value <= MOST_SIZE


def _is_chain(sizes):
    return all([two % one == 0 for one, two in zip(sizes, sizes[1:])])


def _story_of(a, b, c):
    """(the can beside that of b, sizes served if a is taken from b alone, sizes served if it is taken there alone)."""
    rest = c % b
    if rest == 0:
        return (c + a - b % a, [c], [b] * (c // b) + [a] * (b // a))
    return (c if rest >= a else c + a - rest, [c], [b] * (1 + c // b))


def _most_beside(a, b, house):
    """The most sizes a that fit beside y sizes b, for y from 0 to the most."""
    most = [0]
    for left in house:
        # The most of a in this can beside each number of b in it.
        here = [(left - b * many) // a for many in range(left // b + 1)]
        joined = [0] * (len(most) + len(here) - 1)
        for x, one in enumerate(most):
            for y, two in enumerate(here):
                joined[x + y] = max(joined[x + y], one + two)
        most = joined
    return tuple(most)
