"""Places that are opened one after another from a store, and where a steward opens them too late."""

from rueless.errors import CannotTake, Refused, TooGreat
from rueless.partings import is_parting
from rueless.plain import is_same, is_tuple_of
from rueless.rows import is_row, need_row
from rueless.search import first_row, reached
from rueless.stewards import house_parting
from rueless.strikes import is_choice
from rueless.trades import need_letter, need_stand, next_stands, stand_behind
from rueless.weighing import two_choices

MOST_OPEN = 200


def _need_store(trade, store):
    need_stand(trade, store)
    if not all([trade.step(store, beat) == store for beat in trade.beats]):
        raise Refused(store)


class Growing:
    """Changes with each letter that comes: a place is opened, in the store, only if no open one takes a comer."""

    def __init__(self, steward, store):
        _need_store(steward.trade, store)
        self._steward = steward
        self._store = store
        self._put(())

    def _put(self, stands):
        self.open_stands = tuple(sorted(stands))
        self.opened = len(stands)

    def come(self, letter):
        trade = self._steward.trade
        need_letter(trade, letter)
        if letter in trade.beats:
            self._put([trade.step(stand, letter) for stand in self.open_stands])
            return None
        rest = list(self.open_stands)
        stand = self._steward.set_choice(rest, letter)
        if stand is None:
            stand = self._store
            if not trade.takes(stand, letter):
                raise CannotTake(letter)
            if len(rest) == MOST_OPEN:
                raise TooGreat(MOST_OPEN)
        else:
            rest.remove(stand)
        self._put(rest + [trade.step(stand, letter)])
        return stand


def fewest_places(steward, store, row):
    _need_store(steward.trade, store)
    need_row(steward.trade.letters, row)
    # More places serve more, and no more places are used than there are letters.
    if not _is_served_by(steward, store, row, len(row)):
        return None
    low = 0
    high = len(row)
    while low < high:
        middle = (low + high) // 2
        if _is_served_by(steward, store, row, middle):
            high = middle
        else:
            low = middle + 1
    return low


def _is_served_by(steward, store, row, places):
    """Whether so many places, all in the store, serve a row."""
    stands = [store] * places
    for letter in row:
        if letter in steward.trade.beats:
            stands = [steward.trade.step(stand, letter) for stand in stands]
            continue
        stand = steward.set_choice(stands, letter)
        if stand is None:
            return False
        stands[stands.index(stand)] = steward.trade.step(stand, letter)
    return True


def late_pairs(steward, store):
    _need_store(steward.trade, store)
    trade = steward.trade
    stands = sorted(reached([store], lambda stand: next_stands(trade, stand)))
    return tuple([(stand, kind) for stand in stands for kind in trade.kinds if steward.goes_ahead(kind, store, stand)])


def late_fault(steward, store):
    found = late_pairs(steward, store)
    if not found:
        return None
    stand, kind = found[0]
    trade = steward.trade
    row = first_row(store, trade.letters, lambda place, letter: trade.step(place, letter),
                    lambda place: place == stand)
    first, second = two_choices(trade, kind, store, stand)
    return ("late", row, stand, kind, house_parting(steward, first, second))


def late_holds(trade, store, value):
    _need_store(trade, store)
    if not is_tuple_of(value, 5) or not is_same(value[0], "late"):
        return False
    _, row, stand, kind, rest = value
    if not is_row(trade.letters, row) or not is_choice(trade, kind, store, stand):
        return False
    return stand_behind(trade, store, row) == stand and is_parting(trade, kind, store, stand, rest)
