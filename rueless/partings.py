"""The first row that one house serves and another one does not, in any trade."""

from rueless.moves import Moves
from rueless.search import first_row


def first_parting(table, house, other, most):
    """The first row that one house of two serves and the other one does not, or None.

    TooGreat(most) comes only if rows lead the houses to more than so many pairs of fronts, none empty.
    """
    moves = Moves(table.trade)

    def lead(pair, letter):
        front = moves.front(pair[1], letter)
        rest = _unfollowed(table, moves.front(pair[0], letter), front)
        return (rest, front) if rest else None

    start = (_unfollowed(table, (house,), (other,)), (other,))
    return first_row(start, table.trade.letters, lead, lambda pair: pair[1] == (), most)


def _unfollowed(table, front, other):
    """The houses of a front that no house of the other one follows.

    What is followed parts no row, and neither does anything that rows lead it to: it may be left out.
    """
    return tuple([one for one in front if not any([table.holds(one, two) for two in other])])
