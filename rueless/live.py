"""Yards: houses that change, with deeds that can be taken back."""

from rueless.errors import BadTrade, Refused
from rueless.houses import beaten, house_of, merged, served, takers, with_stand, without_stand
from rueless.moves import Moves, house_more
from rueless.plain import is_number_below
from rueless.rows import MOST_LETTERS
from rueless.search import first_row
from rueless.stewards import Steward
from rueless.trades import cut_kinds, need_kind
from rueless.twos import Table
from rueless.verdict import is_rueless, sure_choices


class Yard:
    """Changes by its deeds, and not at all by a deed that raises an error."""

    def __init__(self, trade, house=(), *, shut_kinds=""):
        house = house_of(trade, house)
        cut_kinds(trade, shut_kinds)
        self.whole = trade
        self._shut_out("".join([kind for kind in trade.kinds if kind in shut_kinds]))
        self._begin_anew(house)
        # What undo and redo come to: each is all that changes.
        self._past = []
        self._undone = []

    def _shut_out(self, kinds):
        self.shut_kinds = kinds
        self.trade = cut_kinds(self.whole, [kind for kind in self.whole.kinds if kind not in kinds])
        self.table = Table(self.trade)

    def _begin_anew(self, house):
        self.house = house
        self.row = ""
        self.whole_front = (house,)

    def _state(self):
        return (self.shut_kinds, self.trade, self.table, self.house, self.row, self.whole_front)

    def _return_to(self, state):
        self.shut_kinds, self.trade, self.table, self.house, self.row, self.whole_front = state

    def _note(self):
        """Notes what there is, ahead of a deed that will be done."""
        self._past.append(self._state())
        self._undone = []

    def is_safe(self):
        return is_rueless(self.table)

    def choice(self, kind):
        if self.is_safe():
            return Steward(self.table).choice(self.house, kind)
        stands = takers(self.trade, self.house, kind)
        if not stands:
            return None
        sure = sure_choices(self.table, self.house, kind)
        return sure[0] if sure else stands[0]

    def come(self, kind):
        stand = self.choice(kind)
        if stand is None:
            raise Refused(0)
        self.give(kind, stand)
        return stand

    def give(self, kind, stand):
        self._lead(served(self.trade, self.house, kind, stand), kind)

    def beat(self, sign):
        self._lead(beaten(self.trade, self.house, sign), sign)

    def _lead(self, house, letter):
        """A letter leads to a house."""
        front = Moves(self.trade).front(self.whole_front, letter)
        self._note()
        self.house = house
        self.row += letter
        self.whole_front = front

    def put(self, stand):
        house = with_stand(self.trade, self.house, stand)
        self._note()
        self.house = house
        self.whole_front = tuple(sorted([house_more(one, stand) for one in self.whole_front]))

    def take_away(self, stand):
        house = without_stand(self.trade, self.house, stand)
        self._note()
        self._begin_anew(house)

    def shut(self, kind):
        need_kind(self.trade, kind)
        self._note()
        self._shut_out("".join([one for one in self.whole.kinds if one in self.shut_kinds or one == kind]))
        self._begin_anew(self.house)

    def let(self, kind):
        need_kind(cut_kinds(self.whole, self.shut_kinds), kind)
        self._note()
        self._shut_out("".join([one for one in self.shut_kinds if one != kind]))
        self._begin_anew(self.house)

    def undo(self):
        if not self._past:
            return False
        self._undone.append(self._state())
        self._return_to(self._past.pop())
        return True

    def redo(self):
        if not self._undone:
            return False
        self._past.append(self._state())
        self._return_to(self._undone.pop())
        return True

    def lost(self, letters, *, most=20000):
        if not is_number_below(letters, MOST_LETTERS + 1):
            raise Refused(letters)
        moves = Moves(self.trade)

        def lead(pair, letter):
            whole = moves.front(pair[0], letter)
            front = moves.front(pair[1], letter)
            # Where each house of the one front is in the other one, too, nothing is lost.
            return None if all([house in front for house in whole]) else (whole, front)

        return first_row((self.whole_front, (self.house,)), self.trade.letters, lead, lambda pair: pair[1] == (), most,
                         letters)


def joined_yards(one, other):
    if one.whole != other.whole or one.shut_kinds != other.shut_kinds:
        raise BadTrade(0)
    return Yard(one.whole, merged(one.whole, one.house, other.house), shut_kinds=one.shut_kinds)
