"""The papers of the verdict, and the checker that holds them without seeking anything."""

from rueless.errors import PaperFault
from rueless.houses import is_house
from rueless.moves import Moves
from rueless.plain import is_number_below, is_same, is_sign, is_tuple_of
from rueless.twos import taking_stands, two_choices
from rueless.verdict import first_clash

WORDS = ("first", "second", "both")


def verdict_paper(table):
    clash = first_clash(table)
    if clash is not None:
        kind, p, q = clash
        return ("rueful", kind, p, q, table.struck_houses(_both_ways(table.trade, kind, p, q)))
    sides = [(kind, p, q, side) for kind in table.trade.kinds for p, q, side in table.sides(kind)]
    return ("rueless", tuple(sides), table.needed_houses(_told_pairs(table.trade, sides)))


def _both_ways(trade, kind, p, q):
    """The pairs of the two houses behind a choice: the first follows, then the second follows."""
    first, second = two_choices(trade, kind, p, q)
    return [(second, first), (first, second)]


def _told_pairs(trade, sides):
    """The pairs of unlike houses that the words of the sides say to hold."""
    pairs = []
    for kind, p, q, word in sides:
        first_follows, second_follows = _both_ways(trade, kind, p, q)
        if word != "second":
            pairs.append(first_follows)
        if word != "first":
            pairs.append(second_follows)
    return [(x, y) for x, y in pairs if x != y]


def is_closed(trade, value):
    if not isinstance(value, tuple) or not all([_is_pair(trade, pair) for pair in value]):
        return False
    pairs = {pair: True for pair in value}
    moves = Moves(trade)
    return len(pairs) == len(value) and all([_is_answered(moves, pair, pairs) for pair in value])


def _is_pair(trade, value):
    """Whether any value is a pair of unlike houses with as many places."""
    if not is_tuple_of(value, 2) or not all([is_house(trade, house) for house in value]):
        return False
    return len(value[0]) == len(value[1]) and value[0] != value[1]


def _is_pair_of_twos(trade, value):
    return _is_pair(trade, value) and len(value[0]) == 2


def _is_answered(moves, pair, pairs):
    """Whether each move of the first house has an answer of the second one that keeps within the pairs."""
    for letter in moves.trade.letters:
        answers = moves.behind(pair[1], letter)
        for x2 in moves.behind(pair[0], letter):
            if not any([x2 == y2 or (x2, y2) in pairs for y2 in answers]):
                return False
    return True


def check_verdict(trade, paper):
    if is_tuple_of(paper, 3) and is_same(paper[0], "rueless"):
        _check_rueless(trade, paper[1], paper[2])
    elif is_tuple_of(paper, 5) and is_same(paper[0], "rueful"):
        _check_rueful(trade, paper)
    else:
        raise PaperFault(0)


def _are_sides(trade, value):
    """Whether any value is a tuple with a side, of any word, for all two stands that take a kind."""
    told = [(kind, p, q) for kind in trade.kinds for p, q in _two_takers(trade, kind)]
    if not is_tuple_of(value, len(told)) or not all([is_tuple_of(side, 4) for side in value]):
        return False
    return all([is_same(side[:3], one) and side[3] in WORDS for side, one in zip(value, told)])


def _two_takers(trade, kind):
    stands = taking_stands(trade, kind)
    return [(p, q) for p in stands for q in stands if p < q]


def _check_rueless(trade, sides, value):
    if not _are_sides(trade, sides) or not isinstance(value, tuple):
        raise PaperFault(0)
    pairs = {pair: True for pair in value if _is_pair_of_twos(trade, pair)}
    if not all([pair in pairs for pair in _told_pairs(trade, sides)]):
        raise PaperFault(0)
    _check_pairs(trade, value)
    moves = Moves(trade)
    for number, pair in enumerate(value, 1):
        if not _is_answered(moves, pair, pairs):
            raise PaperFault(number)


def _check_pairs(trade, value):
    """Raises PaperFault for the first thing that is no pair of unlike houses of two, or comes again."""
    seen = {}
    for number, pair in enumerate(value, 1):
        if not _is_pair_of_twos(trade, pair) or pair in seen:
            raise PaperFault(number)
        seen[pair] = True


def _is_clash(trade, kind, p, q):
    """Whether any values are a kind and two stands p < q that take it."""
    if not is_sign(kind, trade.kinds):
        return False
    if not all([is_number_below(stand, trade.stands) for stand in (p, q)]):
        return False
    return p < q and trade.takes(p, kind) and trade.takes(q, kind)


def _check_rueful(trade, paper):
    _, kind, p, q, rows = paper
    if not _is_clash(trade, kind, p, q) or not isinstance(rows, tuple):
        raise PaperFault(0)
    for pair in _both_ways(trade, kind, p, q):
        if not any([isinstance(row, tuple) and is_same(row[:2], pair) for row in rows]):
            raise PaperFault(0)
    for number, row in enumerate(rows, 1):
        if not _is_strike(trade, row):
            raise PaperFault(number)
    _check_strikes(trade, rows)


def _is_strike(trade, value):
    """Whether any value has the form of a strike; it need not hold."""
    if not is_tuple_of(value, 4) or not _is_pair_of_twos(trade, value[:2]):
        return False
    return is_sign(value[2], trade.letters) and is_house(trade, value[3])


def _check_strikes(trade, rows):
    """Raises PaperFault for the first strike that does not hold by those ahead of it."""
    moves = Moves(trade)
    struck = {}
    for number, (x, y, letter, x2) in enumerate(rows, 1):
        if x2 not in moves.behind(x, letter):
            raise PaperFault(number)
        if not all([(x2, y2) in struck for y2 in moves.behind(y, letter)]):
            raise PaperFault(number)
        struck[(x, y)] = True
