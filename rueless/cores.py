"""Cores: the least parts of a trade that are rueful by themselves."""

from rueless.errors import BadTrade, Refused
from rueless.houses import house_of
from rueless.plain import is_same, is_tuple_of, lies_in
from rueless.strikes import is_verdict, verdict_paper
from rueless.trades import all_parts, cut_part, is_part, least_part
from rueless.twos import Table
from rueless.verdict import clashes


def is_rueful_part(table, part):
    if not is_part(table.trade, part):
        raise BadTrade(0)
    # What follows what within a part does not depend on the stands outside of it.
    return any([p in part and q in part for _, p, q in clashes(table)])


def all_cores(table):
    # Each rueful part has the stands of a clash, so each core is the least part with some.
    parts = sorted({least_part(table.trade, (p, q)) for _, p, q in clashes(table)})
    cores = [part for part in parts if not any([lies_in(one, part) for one in parts if one != part])]
    return tuple(sorted(cores, key=lambda core: (len(core), core)))


def core_of(table, house):
    part = least_part(table.trade, house_of(table.trade, house))
    for core in all_cores(table):
        if lies_in(core, part):
            return core
    return None


def _greatest_within(trade, part):
    """The greatest parts but () that lie in a part and are not it, ascending."""
    parts = [one for one in all_parts(trade) if one and one != part and lies_in(one, part)]
    return sorted([one for one in parts if not any([lies_in(one, other) for other in parts if other != one])])


def core_paper(table, part):
    trade = table.trade
    if not any([is_same(part, core) for core in all_cores(table)]):
        raise Refused(0)
    rests = [(rest, _cut_paper(trade, rest)) for rest in _greatest_within(trade, part)]
    return ("core", part, _cut_paper(trade, part), tuple(rests))


def _cut_paper(trade, part):
    return verdict_paper(Table(cut_part(trade, part)))


def core_holds(trade, value):
    if not is_tuple_of(value, 4) or not is_same(value[0], "core"):
        return False
    _, part, paper, rests = value
    if not is_part(trade, part) or not part or not is_verdict(cut_part(trade, part), "rueful", paper):
        return False
    told = _greatest_within(trade, part)
    if not is_tuple_of(rests, len(told)) or not all([is_tuple_of(rest, 2) for rest in rests]):
        return False
    if not all([is_same(rest[0], one) for rest, one in zip(rests, told)]):
        return False
    return all([is_verdict(cut_part(trade, rest[0]), "rueless", rest[1]) for rest in rests])
