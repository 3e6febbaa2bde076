"""Fellows: stands that may stand in one yard, and the parts of a trade all whose houses are rueless."""

from itertools import combinations

from rueless.errors import BadTrade, PaperFault, Refused
from rueless.plain import is_number, is_number_below, is_same, is_tuple_of, lies_in
from rueless.strikes import (WORDS, answering, both_ways, check_pairs, check_strikes, is_strike, moves_known,
                             need_sides, need_strikes, side_pairs, sides_of, told_pairs)
from rueless.trades import all_parts, is_part, least_part, need_stand


def _barred(sides):
    """By (p, q), p < q, that are no fellows the first kind of which the side is "none"."""
    kinds = {}
    for kind, p, q, word in sides:
        if word == "none":
            kinds.setdefault((p, q), kind)
    return kinds


def _barred_in(table):
    return _barred(table.weighing.all_sides())


def are_fellows(table, p, q):
    need_stand(table.trade, p)
    need_stand(table.trade, q)
    return (min(p, q), max(p, q)) not in _barred_in(table)


def fellow_pairs(table):
    barred = _barred_in(table)
    stands = range(table.trade.stands)
    return tuple([(p, q) for p in stands for q in stands if p < q and (p, q) not in barred])


def barred_pairs(table):
    barred = _barred_in(table)
    return tuple(sorted([(p, q, barred[(p, q)]) for p, q in barred]))


def _need_part(table, value, at):
    if not is_part(table.trade, value):
        raise BadTrade(at)


def is_safe_part(table, part):
    _need_part(table, part, 0)
    return _are_all_fellows(_barred_in(table), part)


def _are_all_fellows(barred, stands):
    return not any([p in stands and q in stands for p, q in barred])


def greatest_parts(table):
    return tuple(_greatest(table.trade, _barred_in(table)))


def _greatest(trade, barred):
    found = []
    for part in reversed(all_parts(trade)):
        if _are_all_fellows(barred, part) and not any([lies_in(part, other) for other in found]):
            found.append(part)
    return found[::-1]


def join_fault(table, part, other):
    _need_part(table, part, 0)
    _need_part(table, other, 1)
    barred = _barred_in(table)
    for p in part:
        for q in other:
            kind = barred.get((min(p, q), max(p, q)))
            if kind is not None:
                return (p, q, kind)
    return None


def _left_out(trade, parts):
    """The stands that none of the parts holds."""
    return [stand for stand in range(trade.stands) if not any([stand in part for part in parts])]


def fewest_parts(table):
    trade = table.trade
    parts = greatest_parts(table)
    left = _left_out(trade, parts)
    if left:
        return (False, tuple(left))
    for many in range(len(parts)):
        for numbers in combinations(range(len(parts)), many):
            chosen = tuple([parts[number] for number in numbers])
            if not _left_out(trade, chosen):
                return (True, chosen)
    return (True, parts)


def part_gaps(table, many):
    if not is_number(many):
        raise Refused(many)
    parts = greatest_parts(table)
    size = int(min(many, len(parts)))
    gaps = []
    for numbers in combinations(range(len(parts)), size):
        left = _left_out(table.trade, [parts[number] for number in numbers])
        if not left:
            return None
        gaps.append((numbers, left[0]))
    return tuple(gaps)


def parts_paper(table):
    weighing = table.weighing
    sides = weighing.all_sides()
    pairs = side_pairs(weighing, [side for side in sides if side[3] != "none"])
    strikes = weighing.struck_houses(_clashing_pairs(table.trade, sides))
    is_found, told = fewest_parts(table)
    if not is_found:
        return ("no parts", sides, pairs, strikes, told)
    return ("together", sides, pairs, strikes, told, part_gaps(table, len(told) - 1))


def _clashing_pairs(trade, sides):
    """The pairs, both ways, of the sides that are "none"."""
    return [pair for kind, p, q, word in sides if word == "none" for pair in both_ways(trade, kind, p, q)]


def check_parts(trade, value):
    if not _is_named(value, "together", 6) and not _is_named(value, "no parts", 5):
        raise PaperFault(0)
    word, sides, pairs, strikes, told = value[:5]
    need_sides(sides_of(trade), sides, WORDS + ("none",))
    need_strikes(_clashing_pairs(trade, sides), strikes)
    barred = _barred(sides)
    if word == "together":
        _need_parts(trade, barred, told)
        if not isinstance(value[5], tuple):
            raise PaperFault(0)
    else:
        _need_lone(trade, barred, told)
    moves = moves_known(trade)
    said = told_pairs(trade, [side for side in sides if side[3] != "none"])
    check_pairs(trade, said, pairs, lambda pair: True, answering(trade.letters, moves, moves))
    check_strikes(strikes, lambda row: is_strike(trade, trade.letters, row), moves, lambda x, y: False, len(pairs))
    if word == "together":
        _check_gaps(trade, _greatest(trade, barred), len(told) - 1, value[5], len(pairs) + len(strikes))


def _is_named(value, word, length):
    return is_tuple_of(value, length) and is_same(value[0], word)


def _need_parts(trade, barred, value):
    """Raises PaperFault(0) for any value that is no tuple of safe parts that hold all stands."""
    if not isinstance(value, tuple) or not all([is_part(trade, part) for part in value]):
        raise PaperFault(0)
    if not all([_are_all_fellows(barred, part) for part in value]) or _left_out(trade, value):
        raise PaperFault(0)


def _need_lone(trade, barred, value):
    """Raises PaperFault(0) for any value that is no ascending tuple of some stands that no safe part holds."""
    if not isinstance(value, tuple) or not value:
        raise PaperFault(0)
    if not all([is_number_below(stand, trade.stands) for stand in value]):
        raise PaperFault(0)
    if not all([one < two for one, two in zip(value, value[1:])]):
        raise PaperFault(0)
    if any([_are_all_fellows(barred, least_part(trade, (stand,))) for stand in value]):
        raise PaperFault(0)


def _check_gaps(trade, parts, many, value, ahead):
    """Raises PaperFault unless a tuple tells for each choice of so many parts, or of all, a stand left out."""
    size = int(min(many, len(parts)))
    at = 0
    for numbers in combinations(range(len(parts)), size):
        left = _left_out(trade, [parts[number] for number in numbers])
        if at >= len(value) or not any([is_same(value[at], (numbers, stand)) for stand in left]):
            raise PaperFault(ahead + at + 1)
        at += 1
    if len(value) > at:
        raise PaperFault(ahead + at + 1)
