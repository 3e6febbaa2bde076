"""Heedless trades, in which no choice ever loses a row."""

from rueless.bags import bags_of
from rueless.errors import PaperFault
from rueless.partings import first_choice_row, is_parting
from rueless.plain import is_same
from rueless.strikes import check_verdict, is_choice, verdict_paper
from rueless.weighing import taking_stands


def is_heedless(table):
    return all([side == "both" for _, _, _, side in table.weighing.all_sides()])


def heedless_kinds(table, *, most=20000):
    return "".join([kind for kind in table.trade.kinds if _careless(table, kind, most) is None])


def _careless(table, kind, most):
    """As first_careless, of one kind."""
    stands = taking_stands(table.trade, kind)
    for chosen in stands:
        for other in stands:
            row = first_choice_row(table, kind, other, chosen, most)
            if row is not None:
                return (kind, chosen, other, row)
    return None


def first_careless(table, *, most=20000):
    for kind in table.trade.kinds:
        loss = _careless(table, kind, most)
        if loss is not None:
            return loss
    return None


def is_heedless_house(table, house, *, pairs=5000):
    bags = bags_of(table.trade, house, pairs)
    for bag in bags.houses:
        for kind in table.trade.kinds:
            if len(bags.best_moves(bag, kind)) < len(bags.moves.behind(bag, kind)):
                return False
    return True


def heedless_paper(table, *, most=20000):
    if is_heedless(table):
        paper = verdict_paper(table)
        return ("heedless",) + paper[1:]
    return ("careless",) + first_careless(table, most=most)


def heedless_holds(trade, value):
    if not isinstance(value, tuple) or not value:
        return False
    if is_same(value[0], "careless"):
        if len(value) != 5 or not is_choice(trade, value[1], value[2], value[3]):
            return False
        _, kind, chosen, other, row = value
        return is_parting(trade, kind, other, chosen, row)
    if not is_same(value[0], "heedless"):
        return False
    try:
        check_verdict(trade, ("rueless",) + value[1:])
    except PaperFault:
        return False
    return all([side[3] == "both" for side in value[1]])
