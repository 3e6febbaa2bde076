"""The papers of prices, and the checkers that hold them without seeking anything."""

from rueless.errors import BadPrices, PaperFault, Refused
from rueless.houses import is_house
from rueless.moves import house_moves
from rueless.plain import is_integer, is_number, is_same, is_sequence, is_sign, is_tuple_of
from rueless.prices import Prices, costs_behind, least_costs, least_moves
from rueless.rows import is_row
from rueless.search import reached
from rueless.slacks import price_clashes, price_sides
from rueless.strikes import is_choice, need_clash, need_sides, sides_of, told_pairs
from rueless.weighing import two_choices


def price_paper(ptable):
    clash = price_clashes(ptable)
    if clash:
        kind, p, q = clash[0]
        return ("dear", kind, p, q, _claims(ptable, _dear_pairs(ptable.prices, kind, p, q)))
    sides = price_sides(ptable)
    letters = ptable.trade.letters
    said = told_pairs(ptable.trade, sides)
    pairs = sorted(reached(said, lambda pair: _unlike([(x2, y2) for _, x2, y2 in _answers(ptable, letters, pair)])))
    rows = [(x, y, ptable.slack(x, y), _answers(ptable, letters, (x, y))) for x, y in pairs]
    return ("priced", sides, tuple(rows))


def _unlike(pairs):
    return [(x, y) for x, y in pairs if x != y]


def _answers(ptable, letters, pair):
    x, y = pair
    moves = [(letter, x2) for letter in letters for x2 in house_moves(ptable.trade, x, letter)]
    return tuple([(letter, x2, ptable.answer(x, y, letter, x2)[0]) for letter, x2 in moves])


def _dear_pairs(prices, kind, p, q):
    """(x, y, number) that must be claimed so that neither of two stands may take the kind."""
    first, second = two_choices(prices.trade, kind, p, q)
    more = prices.price(kind, q) - prices.price(kind, p)
    pairs = [(second, first, more + 1), (first, second, 1 - more)]
    return [one for one in pairs if one[2] >= 1]


def _claims(ptable, needs):
    """Claims that show that the slacks are at least these numbers, each by claims of earlier rounds."""
    rounds = ptable.rounds
    houses = ptable.houses
    by_round = {}
    for x, y, number in needs:
        _put_need(rounds, by_round, (houses.index(x), houses.index(y)), number)
    claims = []
    for done in range(rounds.many, 0, -1):
        needed = by_round.get(done, {})
        for pair in sorted(needed):
            letter, x2, rests = rounds.claim(pair, needed[pair], done)
            claims.append((houses[pair[0]], houses[pair[1]], needed[pair], letter, houses[x2]))
            for behind, number in rests:
                _put_need(rounds, by_round, behind, number)
    return tuple(claims[::-1])


def _put_need(rounds, by_round, pair, number):
    """Puts down what must be claimed of a pair, with the first round in which it is so."""
    needed = by_round.setdefault(rounds.round_of(pair, number), {})
    needed[pair] = max(number, needed.get(pair, number))


def _story_costs(prices, story):
    """The four costs of a story: of u behind both choices, then of v."""
    kind, p, q, u, v = story
    first, second = two_choices(prices.trade, kind, p, q)
    return tuple([_costs_on(prices, house, row) for row in (u, v) for house in (first, second)])


def _costs_on(prices, house, row):
    """The least costs behind each beginning of a row."""
    found = [((house, 0),)]
    for letter in row:
        found.append(costs_behind(prices, found[-1], letter))
    return tuple(found)


def _is_story(prices, value):
    """Whether any value is a story of these prices."""
    trade = prices.trade
    if not is_tuple_of(value, 5):
        return False
    kind, p, q, u, v = value
    if not is_choice(trade, kind, p, q) or p >= q or not is_row(trade.letters, u) or not is_row(trade.letters, v):
        return False
    first, second = two_choices(trade, kind, p, q)
    one = (first, prices.price(kind, p))
    two = (second, prices.price(kind, q))
    return _is_cheaper(prices, u, one, two) and _is_cheaper(prices, v, two, one)


def _is_cheaper(prices, row, one, other):
    """Whether a row is served behind one choice, (house, price), and costs more or is not served behind another."""
    costs = [[price + cost for _, cost in least_costs(prices, house, row)] for house, price in (one, other)]
    return len(costs[0]) > 0 and (not costs[1] or min(costs[0]) < min(costs[1]))


def price_story_paper(prices, story):
    if not _is_story(prices, story):
        raise Refused(0)
    return ("price story",) + story + (_story_costs(prices, story),)


def _prices_of(trade, rows):
    if not is_sequence(rows) or len(rows) != len(trade.kinds):
        raise BadPrices(-1)
    return Prices(trade, {kind: row for kind, row in zip(trade.kinds, rows)})


def check_prices(trade, rows, value):
    prices = _prices_of(trade, rows)
    if is_tuple_of(value, 3) and is_same(value[0], "priced"):
        need_sides(sides_of(trade), value[1])
        _check_rows(prices, value[1], value[2])
    elif is_tuple_of(value, 5) and is_same(value[0], "dear"):
        _, kind, p, q, claims = value
        need_clash(trade, kind, p, q)
        _check_claims(prices, _dear_pairs(prices, kind, p, q), claims)
    else:
        raise PaperFault(0)


def _is_two(trade, value):
    return is_house(trade, value) and len(value) == 2


def _is_headed(trade, value, length):
    """Whether any value is a tuple of this length that begins with two houses of two and a number."""
    return is_tuple_of(value, length) and all([_is_two(trade, one) for one in value[:2]]) and is_number(value[2])


def _check_rows(prices, sides, value):
    if not isinstance(value, tuple):
        raise PaperFault(0)
    trade = prices.trade
    slacks = {}
    for row in value:
        if _is_headed(trade, row, 4):
            slacks.setdefault(row[:2], row[2])
    if not all([_has_slack(prices, slacks, side) for side in sides]):
        raise PaperFault(0)
    seen = {}
    for number, row in enumerate(value, 1):
        if not _is_headed(trade, row, 4) or row[0] == row[1] or row[:2] in seen:
            raise PaperFault(number)
        if not _is_answered(prices, slacks, row):
            raise PaperFault(number)
        seen[row[:2]] = True


def _slack_of(slacks, x, y):
    """The slack that is told, 0 of like houses, or None."""
    return 0 if x == y else slacks.get((x, y))


def _has_slack(prices, slacks, side):
    """Whether the slacks that a side says are told, and let whoever it says take the kind."""
    kind, p, q, word = side
    first, second = two_choices(prices.trade, kind, p, q)
    more = prices.price(kind, q) - prices.price(kind, p)
    told = []
    if word != "second":
        told.append((_slack_of(slacks, second, first), more))
    if word != "first":
        told.append((_slack_of(slacks, first, second), -more))
    return all([slack is not None and slack <= most for slack, most in told])


def _is_answered(prices, slacks, row):
    """Whether the answers of a row are told for each letter and move in order, and fit its slack."""
    x, y, slack, told = row
    letters = prices.trade.letters
    asks = [(letter, x2, price) for letter in letters for x2, price in least_moves(prices, x, letter)]
    if not is_tuple_of(told, len(asks)) or not all([is_tuple_of(one, 3) for one in told]):
        return False
    for (letter, x2, a), answer in zip(asks, told):
        if not is_same(answer[:2], (letter, x2)):
            return False
        fits = [is_same(answer[2], y2) and _is_paid(slacks, x2, y2, slack + a - b)
                for y2, b in least_moves(prices, y, letter)]
        if not any(fits):
            return False
    return True


def _is_paid(slacks, x, y, most):
    slack = _slack_of(slacks, x, y)
    return slack is not None and slack <= most


def _check_claims(prices, needs, value):
    if not isinstance(value, tuple):
        raise PaperFault(0)
    for x, y, number in needs:
        if not any([_is_claim_of(row, x, y, number) for row in value]):
            raise PaperFault(0)
    claimed = {}
    for number, row in enumerate(value, 1):
        if not _is_claim(prices, claimed, row):
            raise PaperFault(number)
        claimed[row[:2]] = max(row[2], claimed.get(row[:2], 0))


def _is_claim_of(row, x, y, number):
    """Whether any value is a claim of two houses, of this number at least; it need not hold."""
    return is_tuple_of(row, 5) and is_same(row[:2], (x, y)) and is_integer(row[2]) and row[2] >= number


def _is_claim(prices, claimed, value):
    """Whether any value is a claim that holds by what is claimed further ahead."""
    trade = prices.trade
    if not _is_headed(trade, value, 5) or value[2] < 1 or not is_sign(value[3], trade.letters):
        return False
    x, y, number, letter, told = value
    for x2, a in least_moves(prices, x, letter):
        if is_same(told, x2):
            rests = [(y2, number - b + a) for y2, b in least_moves(prices, y, letter)]
            return all([claimed.get((x2, y2), 0) >= rest for y2, rest in rests])
    return False


def check_price_story(trade, rows, value):
    prices = _prices_of(trade, rows)
    if not is_tuple_of(value, 7) or not is_same(value[0], "price story") or not _is_story(prices, value[1:6]):
        raise PaperFault(0)
    costs = _story_costs(prices, value[1:6])
    if not is_tuple_of(value[6], len(costs)):
        raise PaperFault(0)
    for number, (told, right) in enumerate(zip(value[6], costs), 1):
        if not is_same(told, right):
            raise PaperFault(number)
