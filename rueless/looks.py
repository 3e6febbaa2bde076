"""Looks: a steward who sees of each stand a number alone; chains; and their papers."""

from rueless.errors import BadLooks, BadOrder
from rueless.orderings import least_order
from rueless.partings import is_parting
from rueless.plain import is_number, is_same, is_sequence, is_sign, is_tuple_of
from rueless.rankings import ahead_of, all_takers, is_relation, is_taker, ranking_paper, step_rows
from rueless.stewards import house_parting
from rueless.weighing import taking_stands, two_choices


def _need_looks(trade, value):
    """Raises BadLooks for any value that is no sequence of numbers, one for each stand."""
    if not is_sequence(value) or len(value) != trade.stands:
        raise BadLooks(-1)
    for at, look in enumerate(value):
        if not is_number(look):
            raise BadLooks(at)


def _need_order(looks, value):
    """Raises BadOrder for any value that is no sequence of unlike numbers with all these looks."""
    if not is_sequence(value):
        raise BadOrder(-1)
    seen = {}
    for at, look in enumerate(value):
        if not is_number(look) or look in seen:
            raise BadOrder(at)
        seen[look] = True
    if not all([look in seen for look in looks]):
        raise BadOrder(len(value))


def _need_looks_and_order(trade, kind, looks, order):
    stands = taking_stands(trade, kind)
    _need_looks(trade, looks)
    _need_order([looks[stand] for stand in stands], order)


def _open_pairs(trade, kind, looks, order):
    """The (p, q), ascending, of takers so that p may be given a comer: its look is earlier, or that of q."""
    stands = taking_stands(trade, kind)
    earliness = {look: at for at, look in enumerate(order)}
    early = {stand: earliness[looks[stand]] for stand in stands}
    return [(p, q) for p in stands for q in stands if early[p] <= early[q]]


def looks_loss(steward, kind, looks, order):
    _need_looks_and_order(steward.trade, kind, looks, order)
    for p, q in _open_pairs(steward.trade, kind, looks, order):
        if steward.goes_ahead(kind, q, p):
            first, second = two_choices(steward.trade, kind, p, q)
            return (p, q, house_parting(steward, second, first))
    return None


def _levels(trade, stands, ahead):
    """For each stand the number of stands ahead of it in the longest chain that ends there, or None."""
    order = least_order(stands, ahead)
    if order is None:
        return None
    levels = [0] * trade.stands
    for q in order:
        levels[q] = max([levels[p] + 1 for p in stands if (p, q) in ahead], default=0)
    return tuple(levels)


def fewest_looks(steward, kind):
    return _levels(steward.trade, taking_stands(steward.trade, kind), ahead_of(steward, kind))


def _all_ahead(steward):
    """The pairs of which the first one goes ahead of the second one for some kind."""
    ahead = {}
    for kind in steward.trade.kinds:
        ahead.update(ahead_of(steward, kind))
    return ahead


def joint_looks(steward):
    return _levels(steward.trade, all_takers(steward.trade), _all_ahead(steward))


def _heights(stands, ahead):
    """For each stand the number of stands behind it in the longest chain that begins there, or None."""
    order = least_order(stands, ahead)
    if order is None:
        return None
    heights = {}
    for p in order[::-1]:
        heights[p] = max([heights[q] + 1 for q in stands if (p, q) in ahead], default=0)
    return heights


def _first_step(steward, kinds, p, let):
    """The least (kind, q) so that p goes ahead of q for the kind, and q is one of those that are let."""
    return min([(kind, q) for kind in kinds for q in let if steward.goes_ahead(kind, p, q)])


def _longest_steps(steward, kinds, heights):
    """The least of the longest chains, as a list of (stand, kind), the last one with the kind ""."""
    highest = max(list(heights.values()), default=None)
    if highest is None:
        return []
    steps = []
    p = min([stand for stand in heights if heights[stand] == highest])
    for height in reversed(range(highest)):
        kind, q = _first_step(steward, kinds, p, [stand for stand in heights if heights[stand] == height])
        steps.append((p, kind))
        p = q
    return steps + [(p, "")]


def longest_chain(steward, kind):
    heights = _heights(taking_stands(steward.trade, kind), ahead_of(steward, kind))
    if heights is None:
        return None
    return tuple([stand for stand, _ in _longest_steps(steward, kind, heights)])


def joint_chain(steward):
    heights = _heights(all_takers(steward.trade), _all_ahead(steward))
    if heights is None:
        return None
    return tuple(_longest_steps(steward, steward.trade.kinds, heights))


def _looks_pairs(trade, kind, looks, order):
    """The pairs of unlike houses that must hold if the looks serve: giving to p follows giving to q."""
    ways = [two_choices(trade, kind, p, q) for p, q in _open_pairs(trade, kind, looks, order)]
    return [(second, first) for first, second in ways if first != second]


def looks_paper(steward, kind):
    looks = fewest_looks(steward, kind)
    if looks is None:
        return ranking_paper(steward, kind)
    order = tuple(range(max(looks) + 1))
    relation = steward.table.weighing.needed_houses(_looks_pairs(steward.trade, kind, looks, order))
    return ("looks", kind, looks, order, relation)


def chain_paper(steward, kind):
    stands = longest_chain(steward, kind)
    if stands is None:
        return ranking_paper(steward, kind)
    rows = step_rows(steward, [(kind, p, q) for p, q in zip(stands, stands[1:])])
    return ("chain", kind, stands, rows)


def holds_looks(trade, value):
    if not isinstance(value, tuple) or len(value) < 4 or not is_sign(value[1], trade.kinds):
        return False
    word, kind, things, shown = value[:4]
    if is_same(word, "looks"):
        return len(value) == 5 and _are_right_looks(trade, kind, things, shown, value[4])
    return is_same(word, "chain") and len(value) == 4 and _is_chain(trade, kind, things, shown)


def _are_right_looks(trade, kind, looks, order, relation):
    if not isinstance(looks, tuple) or not isinstance(order, tuple):
        return False
    try:
        _need_looks_and_order(trade, kind, looks, order)
    except (BadLooks, BadOrder):
        return False
    return is_relation(trade, _looks_pairs(trade, kind, looks, order), relation)


def _is_chain(trade, kind, stands, rows):
    if not isinstance(stands, tuple) or not all([is_taker(trade, stand, kind) for stand in stands]):
        return False
    ways = list(zip(stands, stands[1:]))
    if not is_tuple_of(rows, len(ways)):
        return False
    return all([is_parting(trade, kind, p, q, row) for (p, q), row in zip(ways, rows)])
