"""Lots: what places come to that are all new at one time, in told stands."""

from rueless.errors import BadHouse, PaperFault, Refused
from rueless.houses import all_houses, house_of, is_house
from rueless.moves import Moves
from rueless.plain import is_number_below, is_same, is_tuple_of
from rueless.rows import is_row, is_serving, plays, serving_to
from rueless.search import first_row_among, reached
from rueless.strikes import (answering, both_ways, check_pairs, check_strikes, clash_strikes, is_strike, moves_known,
                             need_clash, need_sides, need_strikes, side_pairs, sides_of, told_pairs)
from rueless.trades import need_stands
from rueless.verdict import clashes

MOST_PLACES = 4


def need_few_places(value):
    """Raises BadHouse(-1) for any value that is no number of places that houses of any trade may have."""
    if not is_number_below(value, MOST_PLACES + 1):
        raise BadHouse(-1)


def _new_houses(trade, firsts, places):
    """The houses of so many places that all stand in firsts, ascending."""
    return [house for house in all_houses(trade, places) if all([stand in firsts for stand in house])]


def _lot(moves, firsts, places):
    """The houses of a lot of so many places, ascending.

    What is left when places are taken away is what the places that are left come to by themselves.
    """
    trade = moves.trade
    starts = _new_houses(trade, firsts, places)
    met = reached(starts, lambda house: [one for letter in trade.letters for one in moves.behind(house, letter)])
    return tuple(sorted(met))


def lot_houses(table, firsts, places):
    need_stands(table.trade, firsts)
    need_few_places(places)
    return _lot(Moves(table.trade), firsts, places)


def lot_pairs(table, firsts):
    return lot_houses(table, firsts, 2)


def pair_way(table, firsts, house):
    trade = table.trade
    need_stands(trade, firsts)
    house = house_of(trade, house, places=2)
    starts = _new_houses(trade, firsts, 2)
    moves = Moves(trade)
    row = first_row_among(starts, trade.letters, lambda one, letter: moves.behind(one, letter),
                          lambda one: one == house)
    if row is None:
        raise Refused(0)
    servings = [(start, serving_to(trade, start, row, lambda one: one == house)) for start in starts]
    start, serving = [way for way in servings if way[1] is not None][0]
    return (start, row, serving)


def _clashes_in(table, moves, firsts):
    pairs = _lot(moves, firsts, 2)
    return tuple([(kind, p, q) for kind, p, q in clashes(table) if (p, q) in pairs])


def lot_clashes(table, firsts):
    need_stands(table.trade, firsts)
    return _clashes_in(table, Moves(table.trade), firsts)


def is_rueless_lot(table, firsts):
    return lot_clashes(table, firsts) == ()


def first_couples(table):
    moves = Moves(table.trade)
    couples = all_houses(table.trade, 2)
    return tuple([couple for couple in couples if not _clashes_in(table, moves, couple)])


def first_sets(table):
    couples = {couple: True for couple in first_couples(table)}
    stands = list(range(table.trade.stands))
    sets = [()]
    for stand in stands:
        sets.extend([one + (stand,) for one in list(sets) if _can_join(couples, one, stand)])
    return tuple(sorted([one for one in sets if not any([_can_join(couples, one, stand) for stand in stands
                                                         if stand not in one])]))


def _can_join(couples, stands, stand):
    """Whether a stand with itself, and with each of these stands, is one of the couples."""
    return all([(min(one, stand), max(one, stand)) in couples for one in stands + (stand,)])


def lot_paper(table, firsts):
    pairs = lot_pairs(table, firsts)
    found = lot_clashes(table, firsts)
    if found:
        kind, p, q = found[0]
        rows = clash_strikes(table.weighing, kind, p, q)
        return ("lot rueful",) + pair_way(table, firsts, (p, q)) + (kind, p, q, rows)
    sides = tuple([side for side in table.weighing.all_sides() if side[1:3] in pairs])
    return ("lot", pairs, sides, side_pairs(table.weighing, sides))


def check_lot(trade, firsts, paper):
    need_stands(trade, firsts)
    moves = moves_known(trade)
    if is_tuple_of(paper, 4) and is_same(paper[0], "lot"):
        _, pairs, sides, rows = paper
        _need_lot(trade, firsts, moves, pairs)
        need_sides([side for side in sides_of(trade) if side[1:] in pairs], sides)
        check_pairs(trade, told_pairs(trade, sides), rows, lambda pair: True, answering(trade.letters, moves, moves))
    elif is_tuple_of(paper, 8) and is_same(paper[0], "lot rueful"):
        kind, p, q, rows = paper[4:]
        need_clash(trade, kind, p, q)
        _need_way(trade, firsts, paper[1:4], (p, q))
        need_strikes(both_ways(trade, kind, p, q), rows)
        check_strikes(rows, lambda row: is_strike(trade, trade.letters, row), moves, lambda x, y: False)
    else:
        raise PaperFault(0)


def _need_lot(trade, firsts, moves, value):
    """Raises PaperFault(0) for any value that is no tuple of houses of two, each once, with all of the lot's."""
    if not isinstance(value, tuple) or not all([is_house(trade, house) and len(house) == 2 for house in value]):
        raise PaperFault(0)
    told = {house: True for house in value}
    needed = _new_houses(trade, firsts, 2)
    for house in value:
        needed.extend([behind for letter in trade.letters for behind in moves(house, letter)])
    if len(told) < len(value) or not all([house in told for house in needed]):
        raise PaperFault(0)


def _need_way(trade, firsts, value, house):
    """Raises PaperFault(0) unless (start, row, serving) is a way from a house of two in firsts to this house."""
    start, row, serving = value
    if not is_house(trade, start) or len(start) != 2 or not all([stand in firsts for stand in start]):
        raise PaperFault(0)
    if not is_row(trade.letters, row) or not is_serving(trade, start, row, serving):
        raise PaperFault(0)
    if plays(trade, start, row, serving)[-1] != house:
        raise PaperFault(0)
