"""Orders of things some of which must go ahead of others, and the rings that forbid any order."""


def _is_free(things, thing, ahead):
    """Whether none of these things goes ahead of one of them."""
    return not any([(other, thing) in ahead for other in things])


def least_order(things, ahead):
    """The least tuple of ascending things in which none goes ahead of an earlier one, or None.

    ahead is a dict of the pairs whose first thing goes ahead of the second one.
    """
    order = []
    rest = list(things)
    while rest:
        free = [thing for thing in rest if _is_free(rest, thing, ahead)]
        if not free:
            return None
        order.append(free[0])
        rest.remove(free[0])
    return tuple(order)


class Orders:
    """All the orders of ascending things in which none goes ahead of an earlier one, ascending."""

    def __init__(self, things, ahead):
        self._things = things
        self._ahead = ahead
        self._counts = {(): 1}

    def count_of(self, rest):
        """In how many orders the rest, an ascending tuple, may follow."""
        if rest not in self._counts:
            free = [thing for thing in rest if _is_free(rest, thing, self._ahead)]
            self._counts[rest] = sum([self.count_of(_without(rest, thing)) for thing in free])
        return self._counts[rest]

    def nth(self, number):
        """The order of a number, or None beyond the last one."""
        rest = self._things
        if number >= self.count_of(rest):
            return None
        order = []
        while rest:
            for thing in rest:
                behind = self._orders_behind(rest, thing)
                if number < behind:
                    break
                number -= behind
            order.append(thing)
            rest = _without(rest, thing)
        return tuple(order)

    def number_of(self, order):
        """The number of an order of all the things, or None if it is not let."""
        rest = self._things
        number = 0
        for thing in order:
            if not _is_free(rest, thing, self._ahead):
                return None
            number += sum([self._orders_behind(rest, other) for other in rest if other < thing])
            rest = _without(rest, thing)
        return number

    def _orders_behind(self, rest, thing):
        """How many orders of the rest begin with a thing."""
        return self.count_of(_without(rest, thing)) if _is_free(rest, thing, self._ahead) else 0


def _without(things, thing):
    return tuple([one for one in things if one != thing])


def least_ring(things, leads):
    """Of the rings, in which each thing leads to the next one and the last to the first, the shortest.

    Of these the least, begun at its least thing, or None. leads(thing) are the things, ascending,
    that a thing leads to.
    """
    rings = [_ring_from(start, leads) for start in things]
    rings = [ring for ring in rings if ring is not None]
    return min(rings, key=lambda ring: (len(ring), ring), default=None)


def _ring_from(start, leads):
    """The shortest ring, then the least, of a thing and greater ones, or None."""
    queue = [(start,)]
    seen = {start: True}
    at = 0
    while at < len(queue):
        way = queue[at]
        at += 1
        ahead = leads(way[-1])
        if start in ahead:
            return way
        for thing in ahead:
            if thing > start and thing not in seen:
                seen[thing] = True
                queue.append(way + (thing,))
    return None
