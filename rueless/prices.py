"""Prices: what each stand asks of a comer, and what the servings of a row cost."""

from rueless.errors import BadPrices, CannotTake, Refused
from rueless.houses import house_of
from rueless.moves import choices
from rueless.plain import is_number_below, is_sequence, is_sign
from rueless.rows import fronts, need_row, plays
from rueless.trades import KINDS, Trade, need_kind, need_letter, need_stand

MOST_PRICE = 1000000
MOST_ONCE = 5


class Prices:
    """Never changes. rows has by kind, by stand the price of a stand that takes the kind, None for each other."""

    def __init__(self, trade, prices):
        if not isinstance(prices, dict) or len(prices) != len(trade.kinds):
            raise BadPrices(-1)
        if not all([is_sign(kind, trade.kinds) for kind in prices]):
            raise BadPrices(-1)
        for at, kind in enumerate(trade.kinds):
            if not _are_prices(trade.steps(kind), prices[kind]):
                raise BadPrices(at)
        self.trade = trade
        self.rows = tuple([tuple(prices[kind]) for kind in trade.kinds])

    def __eq__(self, other):
        return isinstance(other, Prices) and self.trade == other.trade and self.rows == other.rows

    def price(self, kind, stand):
        need_kind(self.trade, kind)
        need_stand(self.trade, stand)
        price = self.rows[self.trade.kinds.index(kind)][stand]
        if price is None:
            raise CannotTake(kind)
        return price


def is_price(value):
    return is_number_below(value, MOST_PRICE + 1)


def _are_prices(steps, value):
    """Whether any value is a sequence with a price for each stand with a next one, and None for each other."""
    if not is_sequence(value) or len(value) != len(steps):
        return False
    return all([one is None if step is None else is_price(one) for step, one in zip(steps, value)])


def _changed(prices, change):
    """New Prices, with change(kind, stand, price) for each price."""
    trade = prices.trade
    rows = {}
    for kind, row in zip(trade.kinds, prices.rows):
        rows[kind] = [None if one is None else change(kind, stand, one) for stand, one in enumerate(row)]
    return Prices(trade, rows)


def added_prices(one, other):
    if one.trade != other.trade:
        raise BadPrices(-1)
    return _changed(one, lambda kind, stand, price: price + other.price(kind, stand))


def times_prices(prices, times):
    if not is_price(times):
        raise Refused(times)
    return _changed(prices, lambda kind, stand, price: price * times)


def with_toll(prices, kind, toll):
    need_kind(prices.trade, kind)
    if not is_price(toll):
        raise Refused(toll)
    return _changed(prices, lambda one, stand, price: price + toll if one == kind else price)


def dearness(prices, letter, stand):
    """The price of a choice; that of a beat is of the stand None."""
    return 0 if stand is None else prices.price(letter, stand)


def least_moves(prices, house, letter):
    """(house, least price that leads there) for all houses to which a letter leads an ascending house, ascending."""
    least = {}
    for stand, behind in choices(prices.trade, house, letter):
        price = dearness(prices, letter, stand)
        least[behind] = min(price, least.get(behind, price))
    return tuple(sorted([(behind, least[behind]) for behind in least]))


def priced_moves(prices, house, letter):
    house = house_of(prices.trade, house)
    need_letter(prices.trade, letter)
    return least_moves(prices, house, letter)


def costs_behind(prices, costs, letter):
    """The least costs behind a letter, where these, a tuple of (house, cost), are those ahead of it."""
    least = {}
    for house, cost in costs:
        for behind, price in least_moves(prices, house, letter):
            least[behind] = min(cost + price, least.get(behind, cost + price))
    return tuple(sorted([(behind, least[behind]) for behind in least]))


def least_costs(prices, house, row):
    house = house_of(prices.trade, house)
    need_row(prices.trade.letters, row)
    costs = ((house, 0),)
    for letter in row:
        costs = costs_behind(prices, costs, letter)
    return costs


def cheapest_serving(prices, house, row):
    ahead = _costs_ahead(prices, house, row)
    house = house_of(prices.trade, house)
    if house not in ahead[0]:
        return None
    serving = []
    price = ahead[0][house]
    for letter, costs in zip(row, ahead[1:]):
        ways = _ways_on(prices, house, letter, costs)
        least = min([cost for cost, _, _ in ways])
        _, stand, house = [way for way in ways if way[0] == least][0]
        if stand is not None:
            serving.append(stand)
    return (price, tuple(serving))


def _costs_ahead(prices, house, row):
    """For each beginning of a row, by the houses of its front, the least cost of the rest, if it is served."""
    found = fronts(prices.trade, house, row)
    ahead = [{one: 0 for one in found[-1]}]
    for letter, front in zip(row[::-1], found[-2::-1]):
        ways = {one: _ways_on(prices, one, letter, ahead[-1]) for one in front}
        ahead.append({one: min([cost for cost, _, _ in ways[one]]) for one in ways if ways[one]})
    return ahead[::-1]


def _ways_on(prices, house, letter, costs):
    """(cost of the row from here on, stand, house behind) for all choices behind which the rest is served."""
    ways = [(stand, behind) for stand, behind in choices(prices.trade, house, letter) if behind in costs]
    return [(dearness(prices, letter, stand) + costs[behind], stand, behind) for stand, behind in ways]


def paid_prices(prices, house, row, serving):
    plays(prices.trade, house, row, serving)
    told = 0
    paid = [0]
    for letter in row:
        price = 0
        if letter in prices.trade.kinds:
            price = prices.price(letter, serving[told])
            told += 1
        paid.append(paid[-1] + price)
    return tuple(paid)


def once_prices(rows):
    if not _are_once(rows):
        raise BadPrices(-1)
    places = len(rows[0])
    kinds = KINDS[:len(rows)]
    trade = Trade(places + 1, {kind: [places] * places + [None] for kind in kinds})
    return Prices(trade, {kind: list(row) + [None] for kind, row in zip(kinds, rows)})


def _are_once(value):
    """Whether any value is a sequence of sequences, for so many kinds and places as are let, of one length."""
    if not is_sequence(value) or not 1 <= len(value) <= len(KINDS) or not all([is_sequence(row) for row in value]):
        return False
    return 1 <= len(value[0]) <= MOST_ONCE and all([len(row) == len(value[0]) for row in value])


def once_story(rows):
    prices = once_prices(rows)
    places = range(prices.trade.stands - 1)
    for i, j in [(i, j) for i in places for j in places if i < j]:
        gaps = [row[j] - row[i] for row in prices.rows]
        for kind, gap in zip(prices.trade.kinds, gaps):
            u = "" if gap > 0 else _first_kind([one < gap for one in gaps])
            v = "" if gap < 0 else _first_kind([one > gap for one in gaps])
            if u is not None and v is not None:
                return (i, j, kind, u, v)
    return None


def _first_kind(are_let):
    """The first of the kinds for which it is so, or None."""
    for kind, is_let in zip(KINDS, are_let):
        if is_let:
            return kind
    return None
