"""How the comers of a row are dealt out to two houses."""

from rueless.errors import PaperFault
from rueless.houses import house_of, merged
from rueless.moves import Moves
from rueless.plain import is_number_below, is_sequence
from rueless.rows import can_serve, comers_of, need_row


def dealt_rows(trade, row, dealing):
    need_row(trade.letters, row)
    if not is_sequence(dealing) or len(dealing) != len(comers_of(trade, row)):
        raise PaperFault(-1)
    for at, side in enumerate(dealing):
        if not is_number_below(side, 2):
            raise PaperFault(at)
    return (_dealt_row(trade, row, dealing, 0), _dealt_row(trade, row, dealing, 1))


def _dealt_row(trade, row, dealing, side):
    """The beats of a row and the comers that are dealt to one side."""
    letters = []
    told = 0
    for letter in row:
        if letter in trade.kinds:
            told += 1
            if dealing[told - 1] != side:
                continue
        letters.append(letter)
    return "".join(letters)


def _need_both(trade, house, other, row):
    merged(trade, house, other)
    need_row(trade.letters, row)


def _dealt_moves(moves, pair, letter):
    """(side, pair behind) for all ways in which two houses take a letter; a beat has the side None."""
    house, other = pair
    if letter in moves.trade.beats:
        return [(None, (moves.behind(house, letter)[0], moves.behind(other, letter)[0]))]
    firsts = [(0, (behind, other)) for behind in moves.behind(house, letter)]
    return firsts + [(1, (house, behind)) for behind in moves.behind(other, letter)]


def _good_pairs(moves, start, row):
    """For each beginning of a row the pairs of houses that dealings of it lead to and that serve the rest."""
    met = [[start]]
    for letter in row:
        met.append(list({behind: True for pair in met[-1] for _, behind in _dealt_moves(moves, pair, letter)}))
    good = [{pair: True for pair in met[-1]}]
    for letter, pairs in zip(row[::-1], met[-2::-1]):
        ahead = good[-1]
        good.append({one: True for one in pairs if _good_moves(moves, one, letter, ahead)})
    return good[::-1]


def _good_moves(moves, pair, letter, good):
    return [(side, behind) for side, behind in _dealt_moves(moves, pair, letter) if behind in good]


def some_dealing(trade, house, other, row):
    _need_both(trade, house, other, row)
    moves = Moves(trade)
    start = (house_of(trade, house), house_of(trade, other))
    good = _good_pairs(moves, start, row)
    if start not in good[0]:
        return None
    dealing = []
    pairs = [start]
    for letter, ahead in zip(row, good[1:]):
        ways = [way for pair in pairs for way in _good_moves(moves, pair, letter, ahead)]
        if letter in trade.kinds:
            # Some pair still serves the rest, so the lesser side that any of them allows is right.
            dealing.append(min([side for side, _ in ways]))
            ways = [(side, behind) for side, behind in ways if side == dealing[-1]]
        pairs = list({behind: True for _, behind in ways})
    return tuple(dealing)


def is_dealing(trade, house, other, row, value):
    _need_both(trade, house, other, row)
    if not isinstance(value, tuple):
        return False
    try:
        rows = dealt_rows(trade, row, value)
    except PaperFault:
        return False
    return can_serve(trade, house, rows[0]) and can_serve(trade, other, rows[1])
