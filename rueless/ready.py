"""Ready: whether a steward who knows the wants can serve every wanted row, whatever comes."""

from rueless.enough import is_surely_enough, least_houses, need_letters, need_places
from rueless.errors import CannotTake, NoRoom, Refused
from rueless.houses import house_of, is_house
from rueless.losses import Losses, pair_ways
from rueless.moves import comer_choices
from rueless.plain import is_number, is_number_below, is_same, is_sign, is_tuple_of
from rueless.search import reached
from rueless.stories import least_story
from rueless.wanted import wants_of_rows, wants_told


def _start(trade, wants, house):
    need_letters(trade, wants)
    return (0, house_of(trade, house))


def ready_plan(trade, wants, house):
    start = _start(trade, wants, house)
    losses = Losses(trade, wants, [start])
    if losses.rank(start) is not None:
        return None
    plan = {}

    def lead(pair):
        behind = []
        for letter, ways in losses.ways_of(pair):
            stand, one = losses.kept(pair, letter)[0]
            if stand is not None:
                plan[pair + (letter,)] = stand
            behind.append(one)
        return behind

    reached([start], lead)
    return tuple(sorted([(key, plan[key]) for key in plan]))


def is_ready(trade, wants, house):
    start = _start(trade, wants, house)
    return Losses(trade, wants, [start]).rank(start) is None


def ready_choice(trade, wants, room, house, kind):
    need_letters(trade, wants)
    if not is_number_below(room, wants.rooms):
        raise NoRoom(room)
    house = house_of(trade, house)
    if not is_sign(kind, wants.letters_at(room)) or kind not in trade.kinds:
        raise CannotTake(kind)
    behind = wants.after(room, kind)
    ways = [(stand, (behind, one)) for stand, one in comer_choices(trade, house, kind)]
    losses = Losses(trade, wants, [pair for _, pair in ways])
    for stand, pair in ways:
        if losses.rank(pair) is None:
            return stand
    return None


def lost_ranks(trade, wants, house):
    start = _start(trade, wants, house)
    losses = Losses(trade, wants, [start])
    if losses.rank(start) is None:
        return None

    def lead(pair):
        lost = losses.losing_letter(pair)
        return [behind for letter, ways in losses.ways_of(pair) if letter == lost for _, behind in ways]

    pairs = reached([start], lead)
    return tuple(sorted([(pair, losses.losing_letter(pair), losses.rank(pair)) for pair in pairs]))


def least_ready(trade, wants, places):
    need_letters(trade, wants)
    need_places(trade, places)
    return least_houses(trade, places, lambda house: is_ready(trade, wants, house))


def plan_holds(trade, wants, house, value):
    start = _start(trade, wants, house)
    if not isinstance(value, tuple) or not all([_is_plan_row(trade, wants, row) for row in value]):
        return False
    plan = {key: stand for key, stand in value}
    if len(plan) < len(value):
        return False
    faults = []

    def lead(pair):
        behind = []
        for letter, ways in pair_ways(trade, wants, pair):
            chosen = plan.get(pair + (letter,))
            led = [one for stand, one in ways if stand == chosen]
            if not led:
                faults.append(pair)
            behind.extend(led)
        return behind

    reached([start], lead)
    return faults == []


def _is_plan_row(trade, wants, value):
    if not is_tuple_of(value, 2) or not is_tuple_of(value[0], 3) or not is_number_below(value[1], trade.stands):
        return False
    room, house, kind = value[0]
    return is_number_below(room, wants.rooms) and is_house(trade, house) and is_sign(kind, trade.kinds)


def ranks_hold(trade, wants, house, value):
    start = _start(trade, wants, house)
    if not isinstance(value, tuple) or not all([_is_rank_row(trade, wants, row) for row in value]):
        return False
    ranks = {pair: rank for pair, _, rank in value}
    if len(ranks) < len(value) or start not in ranks:
        return False
    return all([_falls(trade, wants, ranks, pair, letter) for pair, letter, _ in value])


def _is_rank_row(trade, wants, value):
    if not is_tuple_of(value, 3) or not is_tuple_of(value[0], 2):
        return False
    (room, house), letter, rank = value
    if not is_number_below(room, wants.rooms) or not is_house(trade, house):
        return False
    return is_sign(letter, wants.letters_at(room)) and is_number(rank) and rank > 0


def _falls(trade, wants, ranks, pair, letter):
    """Whether all pairs behind a wanted letter have a rank below that of a pair."""
    ways = [way for one, found in pair_ways(trade, wants, pair) if one == letter for way in found]
    return all([behind in ranks and ranks[behind] < ranks[pair] for _, behind in ways])


def helped(table):
    story = least_story(table)
    if story is None:
        return None
    kind, p, q, u, v = story
    return (wants_of_rows([kind + u, kind + v]), (p, q))


def ready_paper(trade, wants, house):
    plan = ready_plan(trade, wants, house)
    return ("ranks", lost_ranks(trade, wants, house)) if plan is None else ("plan", plan)


def ready_holds(trade, wants, house, value):
    _start(trade, wants, house)
    if not is_tuple_of(value, 2):
        return False
    if is_same(value[0], "plan"):
        return plan_holds(trade, wants, house, value[1])
    return is_same(value[0], "ranks") and ranks_hold(trade, wants, house, value[1])


def helped_paper(table):
    told = helped(table)
    if told is None:
        raise Refused(-1)
    wants, house = told
    return ("helped", wants.ways, house, lost_ranks(table.trade, wants, house))


def helped_holds(trade, value):
    if not is_tuple_of(value, 4) or not is_same(value[0], "helped"):
        return False
    _, ways, house, ranks = value
    wants = wants_told(ways)
    if wants is None or not all([letter in trade.letters for letter in wants.letters]):
        return False
    if not is_house(trade, house) or len(house) != 2 or not ranks_hold(trade, wants, house, ranks):
        return False
    return is_surely_enough(trade, wants, house)


class Visit:
    """Changes: serves a house letter by letter, as its plan tells."""

    def __init__(self, trade, wants, house):
        plan = ready_plan(trade, wants, house)
        if plan is None:
            raise Refused(-1)
        self._trade = trade
        self._wants = wants
        self._plan = {key: stand for key, stand in plan}
        self._past = []
        self.room = 0
        self.house = house_of(trade, house)

    def come(self, letter):
        if not is_sign(letter, self._wants.letters_at(self.room)):
            raise Refused(letter)
        pair = (self.room, self.house)
        chosen = self._plan.get(pair + (letter,))
        ways = [way for one, found in pair_ways(self._trade, self._wants, pair) if one == letter for way in found]
        behind = [one for stand, one in ways if stand == chosen][0]
        self._past.append(pair)
        self.room, self.house = behind
        return chosen

    def undo(self):
        if not self._past:
            return False
        self.room, self.house = self._past.pop()
        return True
