"""Rankings: the kind goes to the first stand of a fixed order; and their papers."""

from rueless.errors import BadRanking, Refused
from rueless.houses import house_of
from rueless.orderings import Orders, least_order, least_ring
from rueless.partings import first_parting, is_parting
from rueless.plain import is_number, is_number_below, is_same, is_sequence, is_sign, is_tuple_of
from rueless.stewards import house_parting
from rueless.strikes import is_closed
from rueless.trades import need_kind
from rueless.weighing import taking_stands, two_choices


def all_takers(trade):
    """The stands that take some kind, ascending."""
    return [stand for stand in range(trade.stands) if any([trade.takes(stand, kind) for kind in trade.kinds])]


def _need_ranking(stands, value):
    """Raises BadRanking for any value that is no sequence of all these stands, each once."""
    if not is_sequence(value):
        raise BadRanking(-1)
    seen = {}
    for at, stand in enumerate(value):
        if not is_number(stand) or stand not in stands or stand in seen:
            raise BadRanking(at)
        seen[stand] = True
    if len(value) < len(stands):
        raise BadRanking(len(value))


def _is_ranking(stands, value):
    """Whether any value is a tuple of all these stands, each once."""
    if not is_tuple_of(value, len(stands)) or not all([is_number(stand) for stand in value]):
        return False
    return sorted(value) == list(stands)


def _two_of(ranking):
    """All (p, q) with p earlier than q, by p, then by q."""
    return [(p, q) for at, p in enumerate(ranking) for q in ranking[at + 1:]]


def ranked_choice(trade, house, kind, ranking):
    house = house_of(trade, house)
    _need_ranking(taking_stands(trade, kind), ranking)
    for stand in ranking:
        if stand in house:
            return stand
    return None


def ahead_of(steward, kind):
    return {pair: True for pair in steward.ahead_pairs(kind)}


def _orders_of(steward, kind):
    """All rankings of the kind that serve."""
    return Orders(tuple(taking_stands(steward.trade, kind)), ahead_of(steward, kind))


def first_ranking(steward, kind):
    return least_order(taking_stands(steward.trade, kind), ahead_of(steward, kind))


def count_rankings(steward, kind):
    stands = tuple(taking_stands(steward.trade, kind))
    return _orders_of(steward, kind).count_of(stands)


def nth_ranking(steward, kind, number):
    need_kind(steward.trade, kind)
    if not is_number(number):
        raise Refused(0)
    return _orders_of(steward, kind).nth(number)


def ranking_number(steward, kind, ranking):
    _need_ranking(taking_stands(steward.trade, kind), ranking)
    return _orders_of(steward, kind).number_of(ranking)


def ranking_loss(steward, kind, ranking):
    _need_ranking(taking_stands(steward.trade, kind), ranking)
    for p, q in _two_of(ranking):
        if steward.goes_ahead(kind, q, p):
            first, second = two_choices(steward.trade, kind, p, q)
            return (p, q, house_parting(steward, second, first))
    return None


def first_ring(steward, kind):
    pairs = steward.ahead_pairs(kind)
    stands = taking_stands(steward.trade, kind)
    return least_ring(stands, lambda stand: [q for p, q in pairs if p == stand])


def joint_ranking(steward):
    ahead = {}
    for kind in steward.trade.kinds:
        ahead.update(ahead_of(steward, kind))
    return least_order(all_takers(steward.trade), ahead)


def joint_ring(steward):
    pairs = {kind: steward.ahead_pairs(kind) for kind in steward.trade.kinds}
    steps = sorted([(stand, kind) for kind in pairs for stand in taking_stands(steward.trade, kind)])

    def leads(step):
        ahead = [q for p, q in pairs[step[1]] if p == step[0]]
        return [(stand, kind) for stand, kind in steps if stand in ahead]

    return least_ring(steps, leads)


def judged_ranking(table, kind, ranking, *, most=20000):
    _need_ranking(taking_stands(table.trade, kind), ranking)
    for p, q in _two_of(ranking):
        first, second = two_choices(table.trade, kind, p, q)
        row = first_parting(table, second, first, most)
        if row is not None:
            return (p, q, row)
    return None


def _ranked_pairs(trade, kind, ranking):
    """The pairs of unlike houses that must hold if the ranking serves: giving to p follows giving to q."""
    ways = [two_choices(trade, kind, p, q) for p, q in _two_of(ranking)]
    return [(second, first) for first, second in ways if first != second]


def _jointly_ranked_pairs(trade, ranking):
    pairs = []
    for kind in trade.kinds:
        pairs.extend(_ranked_pairs(trade, kind, [stand for stand in ranking if trade.takes(stand, kind)]))
    return pairs


def _round_steps(steps):
    """Each step of a ring, a list of (stand, kind), with the next stand: (kind, stand, next stand)."""
    return [(kind, p, q) for (p, kind), (q, _) in zip(steps, steps[1:] + steps[:1])]


def step_rows(steward, ways):
    """For each (kind, p, q) the first row that tells that p goes ahead of q."""
    rows = []
    for kind, p, q in ways:
        first, second = two_choices(steward.trade, kind, p, q)
        rows.append(house_parting(steward, first, second))
    return tuple(rows)


def ranking_paper(steward, kind):
    ranking = first_ranking(steward, kind)
    if ranking is not None:
        relation = steward.table.weighing.needed_houses(_ranked_pairs(steward.trade, kind, ranking))
        return ("ranking", kind, ranking, relation)
    ring = first_ring(steward, kind)
    return ("ring", kind, ring, step_rows(steward, _round_steps([(stand, kind) for stand in ring])))


def joint_paper(steward):
    ranking = joint_ranking(steward)
    if ranking is not None:
        relation = steward.table.weighing.needed_houses(_jointly_ranked_pairs(steward.trade, ranking))
        return ("joint ranking", ranking, relation)
    ring = joint_ring(steward)
    return ("joint ring", ring, step_rows(steward, _round_steps(list(ring))))


def loss_paper(table, kind, ranking, *, most=20000):
    loss = judged_ranking(table, kind, ranking, most=most)
    if loss is None:
        return None
    p, q, row = loss
    return ("ranking loss", kind, tuple(ranking), p, q, row)


def is_relation(trade, pairs, value):
    """Whether any value is a closed relation with all of these pairs."""
    return is_closed(trade, value) and all([pair in value for pair in pairs])


def is_taker(trade, stand, kind):
    """Whether any value is a stand that takes a kind."""
    return is_number_below(stand, trade.stands) and trade.takes(stand, kind)


def _is_ring(trade, steps, rows):
    """Whether any rows show that the stand of each step, (stand, kind), goes ahead of the next one."""
    if not steps or not is_tuple_of(rows, len(steps)) or not all([is_taker(trade, p, kind) for p, kind in steps]):
        return False
    ways = _round_steps(steps)
    if not all([is_taker(trade, q, kind) for kind, _, q in ways]):
        return False
    return all([is_parting(trade, kind, p, q, row) for (kind, p, q), row in zip(ways, rows)])


def _is_loss(trade, kind, told):
    ranking, p, q, row = told
    if not _is_ranking(taking_stands(trade, kind), ranking):
        return False
    return any([is_same((p, q), pair) for pair in _two_of(ranking)]) and is_parting(trade, kind, q, p, row)


def holds_ranking(trade, value):
    if not isinstance(value, tuple) or len(value) < 4 or not is_sign(value[1], trade.kinds):
        return False
    word, kind, things, shown = value[:4]
    if is_same(word, "ranking loss"):
        return len(value) == 6 and _is_loss(trade, kind, value[2:])
    if len(value) != 4 or not isinstance(things, tuple):
        return False
    if is_same(word, "ring"):
        return _is_ring(trade, [(stand, kind) for stand in things], shown)
    if not is_same(word, "ranking") or not _is_ranking(taking_stands(trade, kind), things):
        return False
    return is_relation(trade, _ranked_pairs(trade, kind, things), shown)


def holds_joint(trade, value):
    if not is_tuple_of(value, 3) or not isinstance(value[1], tuple):
        return False
    word, things, shown = value
    if is_same(word, "joint ring"):
        are_pairs = all([is_tuple_of(step, 2) and is_sign(step[1], trade.kinds) for step in things])
        return are_pairs and _is_ring(trade, list(things), shown)
    if not is_same(word, "joint ranking") or not _is_ranking(all_takers(trade), things):
        return False
    return is_relation(trade, _jointly_ranked_pairs(trade, things), shown)
