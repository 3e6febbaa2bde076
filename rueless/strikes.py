"""The papers of the verdict, and the checker that holds them without seeking anything."""

from rueless.errors import PaperFault
from rueless.houses import is_house
from rueless.moves import Moves
from rueless.plain import is_integer, is_number_below, is_same, is_sign, is_tuple_of
from rueless.verdict import first_clash
from rueless.weighing import taking_stands, two_choices

WORDS = ("first", "second", "both")


def verdict_paper(table):
    clash = first_clash(table)
    if clash is not None:
        kind, p, q = clash
        return ("rueful", kind, p, q, clash_strikes(table.weighing, kind, p, q))
    sides = table.weighing.all_sides()
    return ("rueless", sides, side_pairs(table.weighing, sides))


def clash_strikes(weighing, kind, p, q):
    """The strikes that show a clash."""
    return weighing.struck_houses(both_ways(weighing.trade, kind, p, q))


def side_pairs(weighing, sides):
    """The pairs that show what sides, of which none is "none", say."""
    return weighing.needed_houses(told_pairs(weighing.trade, sides))


def both_ways(trade, kind, p, q):
    """The pairs of the two houses behind a choice: the first follows, then the second follows."""
    first, second = two_choices(trade, kind, p, q)
    return [(second, first), (first, second)]


def told_pairs(trade, sides):
    """The pairs of unlike houses that the words of the sides say to hold."""
    pairs = []
    for kind, p, q, word in sides:
        first_follows, second_follows = both_ways(trade, kind, p, q)
        if word != "second":
            pairs.append(first_follows)
        if word != "first":
            pairs.append(second_follows)
    return [(x, y) for x, y in pairs if x != y]


def is_closed(trade, value):
    if not isinstance(value, tuple) or not all([_is_pair(trade, pair) for pair in value]):
        return False
    pairs = {pair: True for pair in value}
    moves = moves_known(trade)
    is_answered = answering(trade.letters, moves, moves)
    return len(pairs) == len(value) and all([is_answered(pair, pairs) for pair in value])


def _is_pair(trade, value):
    """Whether any value is a pair of unlike houses with as many places."""
    if not is_tuple_of(value, 2) or not all([is_house(trade, house) for house in value]):
        return False
    return len(value[0]) == len(value[1]) and value[0] != value[1]


def _is_pair_of_twos(trade, value):
    return _is_pair(trade, value) and len(value[0]) == 2


def moves_known(trade):
    """moves(house, letter): the houses that a letter leads to, each worked out once."""
    known = Moves(trade)
    return lambda house, letter: known.behind(house, letter)


def answering(letters, asks, moves):
    """is_answered(pair, pairs): whether each ask of its first house has an answer of its second one.

    asks(house, letter) and moves(house, letter) are houses; the answer keeps within the pairs.
    """
    def is_answered(pair, pairs):
        for letter in letters:
            answers = moves(pair[1], letter)
            for x2 in asks(pair[0], letter):
                if not any([x2 == y2 or (x2, y2) in pairs for y2 in answers]):
                    return False
        return True

    return is_answered


def check_verdict(trade, paper):
    moves = moves_known(trade)
    if is_tuple_of(paper, 3) and is_same(paper[0], "rueless"):
        sides, rows = paper[1:]
        need_sides(sides_of(trade), sides)
        check_pairs(trade, told_pairs(trade, sides), rows, lambda pair: True, answering(trade.letters, moves, moves))
    elif is_tuple_of(paper, 5) and is_same(paper[0], "rueful"):
        _, kind, p, q, rows = paper
        need_clash(trade, kind, p, q)
        need_strikes(both_ways(trade, kind, p, q), rows)
        check_strikes(rows, lambda row: is_strike(trade, trade.letters, row), moves, lambda x, y: False)
    else:
        raise PaperFault(0)


def is_verdict(trade, word, value):
    """Whether any value is a paper, which the checker lets by, that the trade is rueless, or rueful: of this word."""
    if not isinstance(value, tuple) or not is_same(value[:1], (word,)):
        return False
    try:
        check_verdict(trade, value)
    except PaperFault:
        return False
    return True


def sides_of(trade):
    """(kind, p, q) of all sides, in order."""
    found = []
    for kind in trade.kinds:
        stands = taking_stands(trade, kind)
        found.extend([(kind, p, q) for p in stands for q in stands if p < q])
    return found


def need_sides(told, value, words=WORDS):
    """Raises PaperFault(0) for any value that is no tuple with a side, of any of the words, for each of these."""
    if not is_tuple_of(value, len(told)) or not all([is_tuple_of(side, 4) for side in value]):
        raise PaperFault(0)
    if not all([is_same(side[:3], one) and side[3] in words for side, one in zip(value, told)]):
        raise PaperFault(0)


def check_pairs(trade, told, value, is_let, is_answered):
    """Raises PaperFault unless any value is a closed tuple of pairs of houses of two, with those that are told.

    is_let(pair) is what else is asked of the form of a pair, is_answered(pair, pairs) whether it is closed.
    """
    if not isinstance(value, tuple):
        raise PaperFault(0)
    pairs = {pair: True for pair in value if _is_pair_of_twos(trade, pair)}
    if not all([pair in pairs for pair in told]):
        raise PaperFault(0)
    seen = {}
    for number, pair in enumerate(value, 1):
        if not _is_pair_of_twos(trade, pair) or pair in seen or not is_let(pair):
            raise PaperFault(number)
        seen[pair] = True
    for number, pair in enumerate(value, 1):
        if not is_answered(pair, pairs):
            raise PaperFault(number)


def need_clash(trade, kind, p, q):
    """Raises PaperFault(0) for any values that are no kind and two stands p < q that take it."""
    if not is_choice(trade, kind, p, q) or p >= q:
        raise PaperFault(0)


def is_choice(trade, kind, p, q):
    """Whether any values are a kind and two stands that take it."""
    if not is_sign(kind, trade.kinds):
        return False
    if not all([is_number_below(stand, trade.stands) for stand in (p, q)]):
        return False
    return trade.takes(p, kind) and trade.takes(q, kind)


def need_strikes(told, rows):
    """Raises PaperFault(0) unless any value is a tuple in which a row begins with each pair that is told."""
    if not isinstance(rows, tuple):
        raise PaperFault(0)
    heads = {row[:2]: True for row in rows if isinstance(row, tuple) and all([_has_integers(one) for one in row[:2]])}
    if not all([pair in heads for pair in told]):
        raise PaperFault(0)


def _has_integers(value):
    """Whether any value is a tuple of integers, as houses are."""
    return isinstance(value, tuple) and all([is_integer(one) for one in value])


def is_strike(trade, letters, value):
    """Whether any value has the form of a strike by one of these letters; it need not hold."""
    if not is_tuple_of(value, 4) or not _is_pair_of_twos(trade, value[:2]):
        return False
    return value[2] in list(letters) and is_house(trade, value[3])


def check_strikes(rows, is_formed, moves, is_free, ahead=0):
    """Raises PaperFault for the first row that is not formed as a strike, then the first that does not hold.

    A strike holds by those ahead of it, and by the pairs (x, y) with is_free(x, y), which need none.
    So many members of the paper stand ahead of the rows.
    """
    for number, row in enumerate(rows, ahead + 1):
        if not is_formed(row):
            raise PaperFault(number)
    struck = {}
    for number, row in enumerate(rows, ahead + 1):
        x, y, letter, x2 = row[:4]
        if x2 not in moves(x, letter):
            raise PaperFault(number)
        if not all([(x2, y2) in struck or is_free(x2, y2) for y2 in moves(y, letter)]):
            raise PaperFault(number)
        struck[(x, y)] = True
