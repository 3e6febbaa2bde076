"""Rows that part two houses: the one serves them and the other one does not. In any trade."""

from rueless.moves import Moves
from rueless.rows import can_serve, is_row
from rueless.search import first_row, first_row_among
from rueless.weighing import two_choices


def first_parting(table, house, other, most):
    """The first row that one house of two serves and the other one does not, or None.

    TooGreat(most) comes only if rows lead the houses to more than so many pairs of fronts, none empty.
    """
    moves = Moves(table.trade)

    def lead(pair, letter):
        front = moves.front(pair[1], letter)
        rest = _unfollowed(table, moves.front(pair[0], letter), front)
        return (rest, front) if rest else None

    start = (_unfollowed(table, (house,), (other,)), (other,))
    return first_row(start, table.trade.letters, lead, lambda pair: pair[1] == (), most)


def _unfollowed(table, front, other):
    """The houses of a front that no house of the other one follows.

    What is followed parts no row, and neither does anything that rows lead it to: it may be left out.
    """
    return tuple([one for one in front if not any([table.weighing.holds(one, two) for two in other])])


class Met:
    """The pairs of a house and a front that a search has met."""

    def __init__(self):
        self._bits = {}
        self._masks = {}
        self._least = {}

    def _mask_of(self, front):
        """The front as the bits of a number, so that one lies in another one if it shares all its bits."""
        if front not in self._masks:
            mask = 0
            for house in front:
                mask |= self._bits.setdefault(house, 1 << len(self._bits))
            self._masks[front] = mask
        return self._masks[front]

    def is_new(self, house, front):
        """Whether no pair was met, by earlier rows, of this house and a front that lies in this one.

        What parts the house from the greater front parts it from the lesser one, too.
        """
        mask = self._mask_of(front)
        least = self._least.get(house, [])
        if any([one & mask == one for one in least]):
            return False
        self._least[house] = [one for one in least if one & mask != mask] + [mask]
        return True


def first_row_beside(moves, house, other, most, is_followed):
    """The first row that a house serves and another one does not, or None, by the moves of their trade.

    The houses may have different numbers of places. TooGreat(most) comes only if there are more than so many
    pairs of a house to which a row leads the one and of the front of that row for the other one.
    is_followed(one, two) tells, at least of like houses, that two serves all rows of one.
    """
    met = Met()

    def is_open(pair):
        bag, front = pair
        return not any([is_followed(bag, one) for one in front]) and met.is_new(bag, front)

    def leads(pair, letter):
        front = moves.front(pair[1], letter)
        pairs = [(bag, front) for bag in moves.behind(pair[0], letter)]
        return [one for one in pairs if is_open(one)]

    start = [(house, (other,))]
    return first_row_among([one for one in start if is_open(one)], moves.trade.letters, leads,
                           lambda pair: pair[1] == (), most)


def first_choice_row(table, kind, p, q, most):
    """The first row that two takers serve behind giving the kind to p, not behind giving it to q, or None."""
    first, second = two_choices(table.trade, kind, p, q)
    return first_row_beside(Moves(table.trade), first, second, most, lambda one, two: table.weighing.holds(one, two))


def is_parting(trade, kind, p, q, value):
    """Whether any value is a row that two takers serve behind giving the kind to p, not behind giving it to q."""
    first, second = two_choices(trade, kind, p, q)
    return is_row(trade.letters, value) and can_serve(trade, first, value) and not can_serve(trade, second, value)
