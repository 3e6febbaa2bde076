"""The checker of papers of all words."""

from rueless.bills import check_price_story, check_prices
from rueless.cores import core_holds
from rueless.dealings import is_dealing
from rueless.enough import enough_holds, missed_holds
from rueless.errors import NoLetter, NoRoom, NoStand, RuelessError
from rueless.fellows import check_parts
from rueless.growths import growth_holds
from rueless.heedless import heedless_holds
from rueless.homes import check_homes
from rueless.houses import house_of
from rueless.kindsets import check_kinds, check_yards
from rueless.looks import holds_looks
from rueless.lots import check_lot
from rueless.machines import Machine, machine_holds
from rueless.opening import late_holds
from rueless.parties import check_parties
from rueless.places import holds_below
from rueless.plain import is_same, is_sequence
from rueless.rankings import holds_joint, holds_ranking
from rueless.ready import helped_holds, ready_holds
from rueless.rows import holds_row
from rueless.single import single_holds, tree_holds
from rueless.stories import parting_holds, story_holds
from rueless.strikes import check_verdict
from rueless.trades import Trade
from rueless.twins import states_holds
from rueless.wanted import wants_told


def _row(trade, question, paper):
    house, row = question
    return holds_row(trade, house, row, paper)


def _dealing(trade, question, paper):
    house, other, row = question
    return len(paper) == 2 and is_dealing(trade, house, other, row, paper[1])


def _below(trade, question, paper):
    p, q = question
    return holds_below(trade, p, q, paper)


def _parting(trade, question, paper):
    houses = [house_of(trade, house) for house in question]
    return parting_holds(trade, paper) and list(paper[1:3]) == houses


def _verdict(trade, question, paper):
    return check_verdict(trade, paper) is None


def _joint(trade, question, paper):
    return holds_joint(trade, paper)


def _story(trade, question, paper):
    return story_holds(trade, paper)


def _heedless(trade, question, paper):
    return heedless_holds(trade, paper)


def _kinds(trade, question, paper):
    return check_kinds(trade, paper) is None


def _parts(trade, question, paper):
    return check_parts(trade, paper) is None


def _helped(trade, question, paper):
    return helped_holds(trade, paper)


def _ranking(trade, question, paper):
    return holds_ranking(trade, paper) and is_same(question[0], paper[1])


def _looks(trade, question, paper):
    return holds_looks(trade, paper) and is_same(question[0], paper[1])


def _core(trade, question, paper):
    return core_holds(trade, paper) and is_same(question[0], paper[1])


def _single(trade, question, paper):
    return single_holds(trade, question[0], paper)


def _foe(trade, question, paper):
    return tree_holds(trade, question[0], paper)


def _machine(trade, question, paper):
    return machine_holds(trade, question[0], paper)


def _states(trade, question, paper):
    return states_holds(trade, question[0], paper)


def _late(trade, question, paper):
    return late_holds(trade, question[0], paper)


def _lot(trade, question, paper):
    return check_lot(trade, question[0], paper) is None


def _homes(trade, question, paper):
    return check_homes(trade, question[0], paper) is None


def _parties(trade, question, paper):
    return check_parties(trade, question[0], paper) is None


def _yards(trade, question, paper):
    return check_yards(trade, question[0], paper) is None


def _prices(trade, question, paper):
    return check_prices(trade, question[0], paper) is None


def _price_story(trade, question, paper):
    return check_price_story(trade, question[0], paper) is None


def _missed(trade, question, paper):
    wants = wants_told(question[0])
    return wants is not None and missed_holds(trade, wants, question[1], paper)


def _ready(trade, question, paper):
    wants = wants_told(question[0])
    return wants is not None and ready_holds(trade, wants, question[1], paper)


def _least(trade, question, paper):
    wants = wants_told(question[0])
    return wants is not None and enough_holds(trade, wants, question[1], paper)


def _growth(trade, question, paper):
    return isinstance(question[0], Machine) and growth_holds(question[0], paper)


# What each word's papers are held by, by how many things the question has.
NO_THING = {
    "rueless": _verdict, "rueful": _verdict, "joint ranking": _joint, "joint ring": _joint, "story": _story,
    "heedless": _heedless, "careless": _heedless, "kinds": _kinds, "together": _parts, "no parts": _parts,
    "helped": _helped,
}
ONE_THING = {
    "ranking": _ranking, "ranking loss": _ranking, "ring": _ranking, "looks": _looks, "chain": _looks, "core": _core,
    "single": _single, "foe": _foe, "machine": _machine, "states": _states, "late": _late, "lot": _lot,
    "lot rueful": _lot, "homes": _homes, "homes rueful": _homes, "parties": _parties, "parties rueful": _parties,
    "yards": _yards, "no yards": _yards, "priced": _prices, "dear": _prices, "price story": _price_story,
    "growth": _growth,
}
TWO_THINGS = {
    "serving": _row, "refusal": _row, "below": _below, "parts": _below, "parting": _parting, "missed": _missed,
    "plan": _ready, "ranks": _ready, "least": _least,
}
THREE_THINGS = {"dealing": _dealing}
MOST_THINGS = 3


def paper_words():
    return tuple(sorted(list(NO_THING) + list(ONE_THING) + list(TWO_THINGS) + list(THREE_THINGS)))


def _check_of(word, things):
    """What holds papers of a word with a question of so many things; None if there is none."""
    if things == 0:
        return NO_THING.get(word)
    if things == 1:
        return ONE_THING.get(word)
    return TWO_THINGS.get(word) if things == 2 else THREE_THINGS.get(word)


def paper_holds(trade, question, paper):
    if not isinstance(question, tuple) or not isinstance(paper, tuple) or not paper or not isinstance(paper[0], str):
        return False
    check = _check_of(paper[0], len(question)) if len(question) <= MOST_THINGS else None
    if check is None or (not isinstance(trade, Trade) and paper[0] != "growth"):
        return False
    try:
        return check(trade, question, paper)
    except (RuelessError, NoLetter, NoStand, NoRoom):
        return False


def wrong_papers(sheets):
    return tuple([number for number, sheet in enumerate(sheets) if not _is_right(sheet)])


def _is_right(sheet):
    return is_sequence(sheet) and len(sheet) == 3 and paper_holds(sheet[0], sheet[1], sheet[2])
