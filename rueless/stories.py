"""Stories: a comer and two rows, each of which a house of two serves whole, and every choice loses one of them."""

from rueless.errors import Refused
from rueless.houses import house_of, is_house
from rueless.moves import Moves
from rueless.partings import first_choice_row, first_row_beside, is_parting
from rueless.plain import is_same, is_tuple_of
from rueless.rows import can_serve, is_row, is_serving, refusal, some_serving
from rueless.strikes import is_choice
from rueless.verdict import clashes
from rueless.weighing import need_two_takers, two_choices


def least_row(table, house, other, *, most=20000):
    house = house_of(table.trade, house)
    other = house_of(table.trade, other)
    return first_row_beside(Moves(table.trade), house, other, most, lambda one, two: one == two)


def parting_paper(table, house, other, row):
    trade = table.trade
    house = house_of(trade, house)
    other = house_of(trade, other)
    serving = some_serving(trade, house, row)
    if serving is None:
        raise Refused(0)
    if can_serve(trade, other, row):
        raise Refused(1)
    return ("parting", house, other, row, serving, refusal(trade, other, row))


def parting_holds(trade, value):
    if not is_tuple_of(value, 6) or not is_same(value[0], "parting"):
        return False
    _, house, other, row, serving, told = value
    if not is_house(trade, house) or not is_house(trade, other) or not is_row(trade.letters, row):
        return False
    if not is_serving(trade, house, row, serving) or can_serve(trade, other, row):
        return False
    return is_same(told, refusal(trade, other, row))


def two_partings(table, kind, first, second, *, most=20000):
    need_two_takers(table.trade, kind, first, second)
    u = first_choice_row(table, kind, first, second, most)
    return (u, first_choice_row(table, kind, second, first, most))


def story_of(table, kind, first, second, *, most=20000):
    need_two_takers(table.trade, kind, first, second)
    p, q = sorted([first, second])
    u, v = two_partings(table, kind, p, q, most=most)
    return None if u is None or v is None else (kind, p, q, u, v)


def all_stories(table, *, most=20000):
    stories = [story_of(table, kind, p, q, most=most) for kind, p, q in clashes(table)]
    return tuple([story for story in stories if story is not None])


def least_story(table, *, most=20000):
    return min(all_stories(table, most=most), key=lambda story: len(story[3]) + len(story[4]), default=None)


def story_kinds(story):
    kind, _, _, u, v = story
    return "".join([one for one in "abcd" if one in kind + u + v])


def story_paper(table, story):
    trade = table.trade
    if not is_tuple_of(story, 5) or not _is_clash(trade, story[:3]):
        raise Refused(0)
    kind, p, q, u, v = story
    if not is_parting(trade, kind, p, q, u):
        raise Refused(1)
    if not is_parting(trade, kind, q, p, v):
        raise Refused(2)
    first, second = two_choices(trade, kind, p, q)
    papers = (parting_paper(table, first, second, u), parting_paper(table, second, first, v))
    return ("story", kind, p, q) + papers


def _is_clash(trade, told):
    """Whether any values are a kind and two stands p < q that take it."""
    kind, p, q = told
    return is_choice(trade, kind, p, q) and p < q


def story_holds(trade, value):
    if not is_tuple_of(value, 6) or not is_same(value[0], "story") or not _is_clash(trade, value[1:4]):
        return False
    _, kind, p, q, one, other = value
    first, second = two_choices(trade, kind, p, q)
    return _is_parting_of(trade, first, second, one) and _is_parting_of(trade, second, first, other)


def _is_parting_of(trade, house, other, value):
    """Whether any value is a parting paper of just these two houses."""
    return parting_holds(trade, value) and value[1:3] == (house, other)
