"""Shapes: trades from which the verdict can be read, and a rule for each by which nothing is ever lost."""

from itertools import combinations

from rueless.errors import BadShape, Refused
from rueless.houses import house_of
from rueless.moves import comer_choices
from rueless.plain import is_integer, is_number, is_sequence, lies_in
from rueless.trades import KINDS, Trade, need_kind

MOST_LISTS = 5
MOST_SORTED = 6
RUELESS = ("rueless",)


class Shape:
    """Never changes. Not called itself: each shape is of a class below.

    told are the arguments that make it what it is, ranks by kind, by stand what its rule goes by, the least first.
    """

    def __init__(self, trade, names, told, ranks):
        self.trade = trade
        self.names = names
        self._told = told
        self._ranks = ranks

    def __eq__(self, other):
        return isinstance(other, Shape) and self._told == other._told

    def verdict(self):
        return RUELESS

    def choice(self, house, kind):
        ways = needed_ways(self, house, kind)
        ranks = [(self._ranks[kind][stand], stand) for stand, _ in ways]
        return min(ranks)[1] if ranks else None


def needed_ways(shape, house, kind):
    """(stand, house behind) for each choice; raises the errors of a choice by the rule of a shape."""
    house = house_of(shape.trade, house)
    need_kind(shape.trade, kind)
    if shape.verdict() != RUELESS:
        raise Refused(kind)
    return comer_choices(shape.trade, house, kind)


def _is_list(value, letters):
    """Whether any value is a string of some of these letters, in order, each once."""
    return isinstance(value, str) and value == "".join([one for one in letters if one in value])


def _need_kinds(value):
    if not _is_list(value, KINDS):
        raise BadShape(0)


def _are_unlike(values):
    return len({value: True for value in values}) == len(values)


def _list_name(one):
    return one if one else "-"


def _fault_of_lists(one, other):
    """(first common kind, first of the other list alone, first of this one alone), None if no kind is common."""
    common = [kind for kind in one if kind in other]
    one_alone = [kind for kind in one if kind not in other]
    other_alone = [kind for kind in other if kind not in one]
    if not common:
        return None
    return (common[0], other_alone[0] if other_alone else None, one_alone[0] if one_alone else None)


class Rooms(Shape):
    """Rooms, each of which is taken for good by a comer of one of its kinds."""

    def __init__(self, kinds, lists):
        _need_kinds(kinds)
        if not is_sequence(lists) or len(lists) > MOST_LISTS or not all([_is_list(one, kinds) for one in lists]):
            raise BadShape(1)
        lists = tuple(lists)
        if not _are_unlike(lists):
            raise BadShape(1)
        taken = len(lists)
        comers = {kind: [taken if kind in one else None for one in lists] + [None] for kind in kinds}
        names = tuple([_list_name(one) for one in lists] + ["taken"])
        ranks = {kind: [len(one) for one in lists] + [0] for kind in kinds}
        Shape.__init__(self, Trade(taken + 1, comers), names, ("rooms", kinds, lists), ranks)
        self._lists = lists

    def verdict(self):
        for p, q in combinations(range(len(self._lists)), 2):
            fault = _fault_of_lists(self._lists[p], self._lists[q])
            if fault is not None and None not in fault:
                kind, u, v = fault
                return ("rueful", kind, p, q, u, v)
        return RUELESS

    def measure(self, house):
        house = house_of(self.trade, house)
        free = [self._lists[stand] for stand in house if stand < len(self._lists)]
        return tuple([(kinds, len([one for one in free if any([kind in one for kind in kinds])]))
                      for kinds in _all_sets(self.trade.kinds)])

    def overfull(self, house, counts):
        measure = self.measure(house)
        kinds = self.trade.kinds
        if not is_sequence(counts) or len(counts) != len(kinds) or not all([is_number(count) for count in counts]):
            raise Refused(-1)
        for told, rooms in measure:
            if sum([count for kind, count in zip(kinds, counts) if kind in told]) > rooms:
                return told
        return None


def _all_sets(kinds):
    """All sets of kinds but the empty one, fewest kinds first, then as texts."""
    return ["".join(chosen) for many in range(1, len(kinds) + 1) for chosen in combinations(kinds, many)]


class Piles(Shape):
    """Piles: who comes becomes the top of a pile whose top bears the kind."""

    def __init__(self, kinds, bears):
        _need_kinds(kinds)
        if not is_sequence(bears) or not all([_is_bearing(one, kinds) for one in bears]) or not _are_unlike(bears):
            raise BadShape(1)
        if not all([kind + kind in bears for kind in kinds]):
            raise BadShape(2)
        if not all([x + z in bears for x in kinds for y in kinds for z in kinds if x + y in bears and y + z in bears]):
            raise BadShape(3)
        comers = {kind: [at + 1] + [at + 1 if top + kind in bears else None for top in kinds]
                  for at, kind in enumerate(kinds)}
        bare = len(kinds) + 1
        ranks = {kind: [bare] + [_many_not_bearing(bears, kinds, kind, top) for top in kinds] for kind in kinds}
        told = ("piles", kinds, tuple(sorted(bears)))
        Shape.__init__(self, Trade(len(kinds) + 1, comers), ("bare",) + tuple(kinds), told, ranks)
        self._bears = tuple(bears)

    def verdict(self):
        kinds = self.trade.kinds
        for kind in kinds:
            for p, q in combinations(range(1, len(kinds) + 1), 2):
                x, y = kinds[p - 1], kinds[q - 1]
                if x + kind in self._bears and y + kind in self._bears:
                    if x + y not in self._bears and y + x not in self._bears:
                        return ("rueful", kind, p, q, y, x)
        return RUELESS


def _is_bearing(value, kinds):
    return isinstance(value, str) and len(value) == 2 and lies_in(value, kinds)


def _many_not_bearing(bears, kinds, kind, top):
    """How many of the tops that bear a kind do not bear this top."""
    return len([one for one in kinds if one + kind in bears and one + top not in bears])


class Stays(Shape):
    """Rooms that are free again some beats behind a comer."""

    def __init__(self, kinds, sorts):
        _need_kinds(kinds)
        if not is_sequence(sorts) or not sorts or not all([_is_sort(one, kinds) for one in sorts]):
            raise BadShape(1)
        sorts = tuple([tuple(one) for one in sorts])
        if not _are_unlike(sorts) or sum([stay + 1 for _, stay in sorts]) > MOST_SORTED:
            raise BadShape(1)
        comers = {kind: [] for kind in kinds}
        ranks = {kind: [] for kind in kinds}
        names = []
        beat = []
        self._free = []
        for one, stay in sorts:
            free = len(beat)
            self._free.append(free)
            beat.extend([free] + [free + to_go for to_go in range(2, stay + 1)] + [free])
            name = f"{_list_name(one)} {stay}"
            names.extend([name] + [f"{name} taken {stay - at}" for at in range(stay)])
            for kind in kinds:
                comers[kind].extend([free + 1 if kind in one else None] + [None] * stay)
                ranks[kind].extend([(len(one), stay)] * (stay + 1))
        trade = Trade(len(beat), comers, {"0": beat})
        Shape.__init__(self, trade, tuple(names), ("stays", kinds, sorts), ranks)
        self._sorts = sorts

    def verdict(self):
        for one, other in combinations(range(len(self._sorts)), 2):
            told = _fault_of_sorts(self._sorts[one], self._sorts[other])
            if told is not None:
                kind, u, v = told
                return ("rueful", kind, self._free[one], self._free[other], u, v)
        return RUELESS


def _is_sort(value, kinds):
    """Whether any value is a pair of a list and of how long a comer stays."""
    if not is_sequence(value) or len(value) != 2 or not _is_list(value[0], kinds):
        return False
    return is_integer(value[1]) and value[1] >= 1


def _fault_of_sorts(one, other):
    """(kind, row served behind the first choice alone, row behind the second one alone), None if all is well."""
    fault = _fault_of_lists(one[0], other[0])
    if fault is None or one[0] == other[0]:
        return None
    kind, u, v = fault
    if u is not None and v is not None:
        return fault
    if v is None:
        # The first list is the inner one.
        return None if one[1] == 1 else (kind, u, _late_row(kind, other[1], u))
    return None if other[1] == 1 else (kind, _late_row(kind, one[1], v), v)


def _late_row(kind, stay, alone):
    """The row for which the inner room must be free behind one beat, and the outer one behind its stay."""
    return "0" + kind + "0" * (stay - 1) + alone
