"""Trades: the table of stands, comers and beats, and what is cut from it or joined."""

from itertools import combinations

from rueless.errors import BadTrade, NoLetter, NoStand
from rueless.plain import is_number_below, is_integer, is_sequence, is_sign
from rueless.search import first_row, reached

KINDS = "abcd"
BEATS = "01"
LETTERS = "abcd01"
MOST_STANDS = 10
MOST_ENDLESS = 6


class Trade:
    """A table that never changes: which stand a place comes to by each letter."""

    def __init__(self, stands, comers, beats=None):
        if not (is_integer(stands) and 1 <= stands <= MOST_STANDS):
            raise BadTrade(0)
        if not _are_ways(comers, KINDS, stands):
            raise BadTrade(1)
        if beats is None:
            beats = {}
        if not _are_ways(beats, BEATS, stands):
            raise BadTrade(2)
        self.stands = stands
        self.kinds = "".join([kind for kind in KINDS if kind in comers])
        self.beats = "".join([beat for beat in BEATS if beat in beats])
        self.letters = self.kinds + self.beats
        ways = [tuple(comers[kind]) for kind in self.kinds] + [tuple(beats[beat]) for beat in self.beats]
        self._ways = tuple(ways)
        if stands > MOST_ENDLESS and not runs_out(self):
            raise BadTrade(3)

    def __eq__(self, other):
        return (isinstance(other, Trade) and self.stands == other.stands
                and self.letters == other.letters and self._ways == other._ways)

    def steps(self, letter):
        need_letter(self, letter)
        return self._ways[self.letters.index(letter)]

    def step(self, stand, letter):
        need_stand(self, stand)
        return self.steps(letter)[stand]

    def takes(self, stand, kind):
        need_stand(self, stand)
        need_kind(self, kind)
        return self.steps(kind)[stand] is not None


def _are_ways(value, letters, stands):
    """Whether any value is a dict from some of these letters to their next stands."""
    if not isinstance(value, dict):
        return False
    return all([is_sign(letter, letters) and _are_steps(value[letter], letter, stands) for letter in value])


def _are_steps(value, letter, stands):
    if not is_sequence(value) or len(value) != stands:
        return False
    return all([is_number_below(stand, stands) or (stand is None and letter in KINDS) for stand in value])


def need_stand(trade, value):
    if not is_number_below(value, trade.stands):
        raise NoStand(value)


def need_letter(trade, value):
    if not is_sign(value, trade.letters):
        raise NoLetter(value)


def need_kind(trade, value):
    if not is_sign(value, trade.kinds):
        raise NoLetter(value)


def need_beat(trade, value):
    if not is_sign(value, trade.beats):
        raise NoLetter(value)


def need_stands(trade, stands):
    """Raises NoStand for the first thing of a sequence that is no stand, or for what is no sequence."""
    if not is_sequence(stands):
        raise NoStand(stands)
    for stand in stands:
        need_stand(trade, stand)


def stand_behind(trade, stand, row):
    """The stand that a row leads a place to, None if the place does not serve it."""
    for letter in row:
        if stand is None:
            return None
        stand = trade.step(stand, letter)
    return stand


def next_stands(trade, stand):
    """The stands that letters lead a place to."""
    steps = [trade.step(stand, letter) for letter in trade.letters]
    return [behind for behind in steps if behind is not None]


def least_part(trade, stands):
    need_stands(trade, stands)
    return tuple(sorted(reached(stands, lambda stand: next_stands(trade, stand))))


def _is_kept(trade, stands):
    """Whether all letters keep within these stands."""
    return all([behind in stands for stand in stands for behind in next_stands(trade, stand)])


def is_part(trade, value):
    if not isinstance(value, tuple) or not all([is_number_below(stand, trade.stands) for stand in value]):
        return False
    return all([one < two for one, two in zip(value, value[1:])]) and _is_kept(trade, value)


def all_parts(trade):
    parts = []
    for many in range(trade.stands + 1):
        for stands in combinations(range(trade.stands), many):
            if _is_kept(trade, stands):
                parts.append(stands)
    return tuple(parts)


def _trade_of(stands, ways):
    """The trade of a dict from letters, kinds or beats, to next stands."""
    comers = {letter: ways[letter] for letter in ways if letter in KINDS}
    beats = {letter: ways[letter] for letter in ways if letter in BEATS}
    return Trade(stands, comers, beats)


def renumbered(trade, order, numbers):
    """The trade whose stand i is order[i]; numbers tells what each stand that comes up is called."""
    ways = {}
    for letter in trade.letters:
        steps = [trade.step(stand, letter) for stand in order]
        ways[letter] = [None if behind is None else numbers[behind] for behind in steps]
    return _trade_of(len(order), ways)


def _places_in(order):
    return {stand: at for at, stand in enumerate(order)}


def cut_part(trade, part):
    if not is_part(trade, part) or len(part) == 0:
        raise BadTrade(0)
    return renumbered(trade, part, _places_in(part))


def cut_kinds(trade, kinds):
    if not isinstance(kinds, (str, list, tuple)):
        raise NoLetter(kinds)
    for kind in kinds:
        need_kind(trade, kind)
    letters = [letter for letter in trade.letters if letter in kinds or letter in trade.beats]
    return _trade_of(trade.stands, {letter: trade.steps(letter) for letter in letters})


def in_order(trade, order):
    if not is_sequence(order) or not all([is_number_below(stand, trade.stands) for stand in order]):
        raise BadTrade(0)
    if sorted(order) != list(range(trade.stands)):
        raise BadTrade(0)
    return renumbered(trade, order, _places_in(order))


def side_by_side(one, other):
    if one.kinds != other.kinds:
        raise BadTrade(1)
    if one.beats != other.beats:
        raise BadTrade(2)
    ways = {}
    for letter in one.letters:
        shifted = [None if behind is None else behind + one.stands for behind in other.steps(letter)]
        ways[letter] = list(one.steps(letter)) + shifted
    return _trade_of(one.stands + other.stands, ways)


def runs_out(trade):
    return comer_ring(trade) is None


def comer_ring(trade):
    for stand in range(trade.stands):
        row = _first_ring_row(trade, stand)
        if row is not None:
            return (stand, row)
    return None


def _first_ring_row(trade, stand):
    """The first row with a comer that leads a stand back to itself, or None."""
    def lead(state, letter):
        behind = trade.step(state[0], letter)
        return None if behind is None else (behind, state[1] or letter in trade.kinds)

    return first_row((stand, False), trade.letters, lead, lambda state: state == (stand, True))


def most_comers(trade, stand):
    need_stand(trade, stand)
    most = [0] * trade.stands
    # So many comers as there are stands meet one stand twice, which is a ring without an end.
    for _ in range(trade.stands * trade.stands):
        most = [_longer_way(trade, most, start) for start in range(trade.stands)]
    return None if most[stand] >= trade.stands else most[stand]


def _longer_way(trade, most, stand):
    ways = [most[stand]]
    for letter in trade.letters:
        behind = trade.step(stand, letter)
        if behind is not None:
            ways.append(most[behind] + (1 if letter in trade.kinds else 0))
    return min(trade.stands, max(ways))
