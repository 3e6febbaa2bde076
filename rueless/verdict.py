"""The verdict on a trade, and choices that lose nothing even where it is rueful."""

from rueless.errors import CannotTake, NotRueless
from rueless.houses import house_of, served, takers
from rueless.moves import beat_move
from rueless.search import reached


def clashes(table):
    return table.weighing.clashes()


def first_clash(table):
    found = clashes(table)
    return found[0] if found else None


def is_rueless(table):
    return first_clash(table) is None


def need_rueless(table):
    clash = first_clash(table)
    if clash is not None:
        kind, p, q = clash
        raise NotRueless(kind, p, q)


def sure_choices(table, house, kind):
    stands = takers(table.trade, house, kind)
    if not stands:
        raise CannotTake(kind)
    better = {one: [other for other in stands if _is_no_worse(table, kind, other, one)] for one in stands}
    led = [reached([stand], lambda one: better[one]) for stand in stands]
    return tuple([stand for stand in stands if all([stand in chain for chain in led])])


def _is_no_worse(table, kind, p, q):
    return table.side(kind, p, q) in ("first", "both")


def is_sure(table, house):
    house = house_of(table.trade, house)
    met = reached([house], lambda one: _sure_moves(table, one))
    return all([sure != () for one in met for _, sure in _sure_by_kind(table, one)])


def _sure_by_kind(table, house):
    """(kind, sure choices) for each kind that some stand of the house takes."""
    kinds = [kind for kind in table.trade.kinds if takers(table.trade, house, kind)]
    return [(kind, sure_choices(table, house, kind)) for kind in kinds]


def _sure_moves(table, house):
    """The houses that beats and sure choices lead to."""
    behind = [beat_move(table.trade, house, beat) for beat in table.trade.beats]
    for kind, sure in _sure_by_kind(table, house):
        behind.extend([served(table.trade, house, kind, stand) for stand in sure])
    return behind
