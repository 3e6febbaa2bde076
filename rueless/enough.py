"""Enough: whether a house can serve all wanted rows, and the least houses that can."""

from rueless.errors import BadPrices, NoLetter, Refused, TooGreat
from rueless.houses import all_houses, house_of, is_bag_within, is_house, most_places
from rueless.moves import Moves, house_less, stands_of
from rueless.plain import is_number_below, is_same, is_sequence, is_tuple_of
from rueless.prices import is_price
from rueless.rows import can_serve, fronts
from rueless.search import first_row
from rueless.stewards import Walker

MOST_PAIRS = 20000


def need_letters(trade, wants):
    """Raises NoLetter for the first letter of the wants that the trade lacks."""
    for letter in wants.letters:
        if letter not in trade.letters:
            raise NoLetter(letter)


def need_places(trade, places):
    """Raises Refused for any value that is no number of places of a house."""
    if not is_number_below(places, most_places(trade) + 1):
        raise Refused(places)


def missed(trade, wants, house, *, most=20000):
    need_letters(trade, wants)
    house = house_of(trade, house)
    return _first_missed(Moves(trade), wants, house, most)


def _first_missed(moves, wants, house, most):
    def lead(pair, letter):
        room = wants.after(pair[0], letter)
        return None if room is None else (room, moves.front(pair[1], letter))

    return first_row((0, (house,)), wants.letters, lead, lambda pair: pair[1] == (), most)


def walked_missed(steward, wants, house):
    need_letters(steward.trade, wants)
    house = house_of(steward.trade, house)
    walker = Walker(steward)

    def lead(pair, letter):
        room = wants.after(pair[0], letter)
        return None if room is None else (room, walker.behind(pair[1], letter))

    return first_row((0, house), wants.letters, lead, lambda pair: pair[1] is None)


def is_enough(trade, wants, house, *, most=20000):
    return missed(trade, wants, house, most=most) is None


def least_houses(trade, places, is_let):
    """The houses of at most so many places that are let, and are not with any one place left out.

    Whatever has a house that is let within must be let, too: it is not asked for.
    """
    found = []
    for house in houses_upto(trade, places):
        if _has_none_within(found, house) and is_let(house):
            found.append(house)
    return tuple(found)


def houses_upto(trade, places):
    """All houses of at most so many places, fewest places first, then ascending."""
    return [house for many in range(places + 1) for house in all_houses(trade, many)]


def _has_none_within(houses, house):
    return not any([is_bag_within(one, house) for one in houses])


def least_enough(trade, wants, places, *, most=20000):
    need_letters(trade, wants)
    need_places(trade, places)
    moves = Moves(trade)
    return least_houses(trade, places, lambda house: _first_missed(moves, wants, house, most) is None)


def lesser_rows(trade, wants, house, *, most=20000):
    if missed(trade, wants, house, most=most) is not None:
        raise Refused(-1)
    house = house_of(trade, house)
    moves = Moves(trade)
    rows = []
    for stand in stands_of(house):
        row = _first_missed(moves, wants, house_less(house, stand), most)
        if row is None:
            raise Refused(stand)
        rows.append((stand, row))
    return tuple(rows)


def cheapest(trade, wants, places, prices, *, most=20000):
    need_letters(trade, wants)
    need_places(trade, places)
    if not is_sequence(prices) or len(prices) != trade.stands:
        raise BadPrices(-1)
    for at, price in enumerate(prices):
        if not is_price(price):
            raise BadPrices(at)
    # No price is below 0, so a place that can be left out is never worth its price.
    houses = least_enough(trade, wants, places, most=most)
    costs = [(sum([prices[stand] for stand in house]), len(house), house) for house in houses]
    if not costs:
        return None
    cost, _, house = min(costs)
    return (cost, house)


def missed_paper(trade, wants, house):
    row = missed(trade, wants, house)
    if row is None:
        raise Refused(-1)
    return ("missed", row, fronts(trade, house, row))


def missed_holds(trade, wants, house, value):
    need_letters(trade, wants)
    house = house_of(trade, house)
    if not is_tuple_of(value, 3) or not is_same(value[0], "missed"):
        return False
    _, row, told = value
    return is_missed(trade, wants, house, row) and is_same(told, fronts(trade, house, row))


def is_missed(trade, wants, house, value):
    """Whether any value is a wanted row of at most 200 letters that a house cannot serve."""
    return wants.wants_row(value) and not can_serve(trade, house, value)


def enough_paper(trade, wants, places):
    houses = least_enough(trade, wants, places)
    moves = Moves(trade)
    rests = [(house, _first_missed(moves, wants, house, MOST_PAIRS)) for house in _houses_beside(trade, places, houses)]
    return ("least", houses, tuple(rests))


def _houses_beside(trade, places, houses):
    """All houses of at most so many places in which none of these lies."""
    return [house for house in houses_upto(trade, places) if _has_none_within(houses, house)]


def enough_holds(trade, wants, places, value):
    need_letters(trade, wants)
    need_places(trade, places)
    if not is_tuple_of(value, 3) or not is_same(value[0], "least"):
        return False
    _, houses, rests = value
    if not _are_apart(trade, places, houses):
        return False
    told = _houses_beside(trade, places, houses)
    if not is_tuple_of(rests, len(told)) or not all([is_tuple_of(rest, 2) for rest in rests]):
        return False
    if not all([is_same(rest[0], house) for rest, house in zip(rests, told)]):
        return False
    if not all([is_missed(trade, wants, house, row) for house, row in rests]):
        return False
    return all([is_surely_enough(trade, wants, house) for house in houses])


def is_surely_enough(trade, wants, house):
    """Whether a house is enough; one for which this takes too much does not count."""
    try:
        return is_enough(trade, wants, house)
    except TooGreat:
        return False


def _are_apart(trade, places, value):
    """Whether any value is a tuple of houses of at most so many places, in order, none within another one."""
    if not isinstance(value, tuple) or not all([is_house(trade, house) and len(house) <= places for house in value]):
        return False
    keys = [(len(house), house) for house in value]
    if not all([one < two for one, two in zip(keys, keys[1:])]):
        return False
    return all([_has_none_within(value[:at], house) for at, house in enumerate(value)])
