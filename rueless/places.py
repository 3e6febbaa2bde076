"""What one place can do for another one, and one letter for another one."""

from itertools import permutations

from rueless.houses import house_of
from rueless.plain import is_number_below, is_same, is_tuple_of
from rueless.rows import is_row, row_rank
from rueless.search import first_row, reached
from rueless.trades import need_kind, need_letter, need_stand, renumbered, stand_behind


def _need_two(trade, p, q):
    need_stand(trade, p)
    need_stand(trade, q)


def _first_parting(trade, one, other):
    """The first row that a place serves and another one does not; a place in the stand None serves none."""
    if one is None:
        return None
    if other is None:
        return ""

    def lead(pair, letter):
        behind = trade.step(pair[0], letter)
        return None if behind is None else (behind, trade.step(pair[1], letter))

    return first_row((one, other), trade.letters, lead, lambda pair: pair[1] is None)


def below(trade):
    stands = range(trade.stands)
    return tuple([(p, q) for p in stands for q in stands if _first_parting(trade, p, q) is None])


def is_below(trade, p, q):
    return parting_row(trade, p, q) is None


def parting_row(trade, p, q):
    _need_two(trade, p, q)
    return _first_parting(trade, p, q)


def _next_pairs(trade, pair):
    """The pairs that a closed set with this pair has too; the second stand may be None."""
    pairs = [(trade.step(pair[0], letter), trade.step(pair[1], letter)) for letter in trade.letters]
    return [(one, other) for one, other in pairs if one is not None]


def below_paper(trade, p, q):
    row = parting_row(trade, p, q)
    if row is not None:
        return ("parts", row)
    return ("below", tuple(sorted(reached([(p, q)], lambda pair: _next_pairs(trade, pair)))))


def holds_below(trade, p, q, value):
    _need_two(trade, p, q)
    if not is_tuple_of(value, 2):
        return False
    word, told = value
    if is_same(word, "parts"):
        return (is_row(trade.letters, told) and stand_behind(trade, p, told) is not None
                and stand_behind(trade, q, told) is None)
    return is_same(word, "below") and _is_closed_with(trade, (p, q), told)


def _is_closed_with(trade, pair, value):
    """Whether any value is a closed tuple of pairs with this one."""
    if not isinstance(value, tuple) or not all([_is_pair(trade, one) for one in value]):
        return False
    stand_there = {one: True for one in value}
    return pair in stand_there and all([ahead in stand_there for one in value for ahead in _next_pairs(trade, one)])


def _is_pair(trade, value):
    return is_tuple_of(value, 2) and all([is_number_below(stand, trade.stands) for stand in value])


def alike_stands(trade):
    pairs = below(trade)
    stands = range(trade.stands)
    classes = []
    for stand in stands:
        alike = tuple([one for one in stands if (one, stand) in pairs and (stand, one) in pairs])
        if alike[0] == stand:
            classes.append(alike)
    return tuple(classes)


def least_trade(trade):
    classes = alike_stands(trade)
    numbers = {stand: number for number, alike in enumerate(classes) for stand in alike}
    least = renumbered(trade, [alike[0] for alike in classes], numbers)
    return (least, tuple([numbers[stand] for stand in range(trade.stands)]))


def idle_stands(trade):
    idle = []
    for stand in range(trade.stands):
        passed = reached([stand], lambda one: [trade.step(one, beat) for beat in trade.beats])
        if not any([trade.takes(one, kind) for one in passed for kind in trade.kinds]):
            idle.append(stand)
    return tuple(idle)


def covering(trade, house, other):
    house = house_of(trade, house)
    other = house_of(trade, other)
    pairs = below(trade)
    for places in permutations(range(len(other)), len(house)):
        if all([(stand, other[place]) in pairs for stand, place in zip(house, places)]):
            return places
    return None


def _head_fault(trade, head, other_head, is_both_ways):
    """The least stand, and the first rows with these heads and one rest, of which it serves the first alone.

    If it goes both ways, the second alone will do.
    """
    for stand in range(trade.stands):
        one = stand_behind(trade, stand, head)
        other = stand_behind(trade, stand, other_head)
        rests = [_first_parting(trade, one, other)]
        if is_both_ways:
            rests.append(_first_parting(trade, other, one))
        rests = [rest for rest in rests if rest is not None]
        if rests:
            rest = min(rests, key=lambda row: row_rank(trade.letters, row))
            return (stand, head + rest, other_head + rest)
    return None


def exchange_fault(trade, x, y):
    need_letter(trade, x)
    need_letter(trade, y)
    return _head_fault(trade, x + y, y + x, True)


def exchanges(trade):
    pairs = [(x, y) for at, x in enumerate(trade.letters) for y in trade.letters[at + 1:]]
    return tuple([(x, y) for x, y in pairs if exchange_fault(trade, x, y) is None])


def stand_in_fault(trade, c, d):
    need_kind(trade, c)
    need_kind(trade, d)
    return _head_fault(trade, c, d, False)


def stand_ins(trade):
    pairs = [(c, d) for c in trade.kinds for d in trade.kinds if c != d]
    return tuple([(c, d) for c, d in pairs if stand_in_fault(trade, c, d) is None])


def left_out_fault(trade, c):
    need_kind(trade, c)
    return _head_fault(trade, c, "", False)


def left_outs(trade):
    return "".join([c for c in trade.kinds if left_out_fault(trade, c) is None])
