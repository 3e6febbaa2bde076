"""The table of prices: which of two choices never makes a steward pay more than a cheapest serving does."""

from rueless.errors import NotRueless
from rueless.houses import house_of
from rueless.hunts import least_hunted
from rueless.moves import choices, house_moves
from rueless.plain import is_same, is_tuple_of
from rueless.prices import dearness, least_moves
from rueless.rounds import Rounds
from rueless.rows import need_row
from rueless.strikes import sides_of
from rueless.trades import need_kind, need_letter
from rueless.weighing import need_two_takers, side_word, taking_stands, two_choices


class PriceTable:
    """Never changes. The slacks of all houses of two places are worked out when it is made."""

    def __init__(self, prices, *, most=2000):
        self.prices = prices
        self.trade = prices.trade
        self.rounds = Rounds(prices, most)
        self.houses = self.rounds.houses
        self._numbers = {house: number for number, house in enumerate(self.houses)}

    def _number_of(self, house):
        """The number of any sequence that is a house of two."""
        return self._numbers[house_of(self.trade, house, places=2)]

    def slack(self, x, y):
        x = self._number_of(x)
        return self.rounds.slack(x, self._number_of(y))

    def answer(self, x, y, letter, x2):
        x = house_of(self.trade, x, places=2)
        y = house_of(self.trade, y, places=2)
        need_letter(self.trade, letter)
        x2 = house_of(self.trade, x2, places=2)
        if x2 not in house_moves(self.trade, x, letter):
            return None
        ways = [(self.slack(x2, y2), y2, price) for y2, price in least_moves(self.prices, y, letter)]
        costs = [(price + slack, y2, price) for slack, y2, price in ways if slack is not None]
        return min(costs)[1:] if costs else None

    def side(self, kind, p, q):
        need_two_takers(self.trade, kind, p, q)
        return side_word(self.may_take(kind, p, q), self.may_take(kind, q, p))

    def sides(self, kind):
        stands = taking_stands(self.trade, kind)
        return tuple([(p, q, self.side(kind, p, q)) for p in stands for q in stands if p < q])

    def better(self, kind, p, q):
        word = self.side(kind, p, q)
        if word == "none":
            return None
        return q if word == "second" else p

    def may_take(self, kind, p, q):
        """Whether, of two takers, p may always be given the kind where q takes it, too."""
        first, second = two_choices(self.trade, kind, p, q)
        slack = self.slack(second, first)
        return slack is not None and slack <= self.prices.price(kind, q) - self.prices.price(kind, p)


def price_sides(ptable):
    return tuple([(kind, p, q, side) for kind in ptable.trade.kinds for p, q, side in ptable.sides(kind)])


def price_clashes(ptable):
    return tuple([(kind, p, q) for kind, p, q, side in price_sides(ptable) if side == "none"])


def is_price_rueless(ptable):
    return price_clashes(ptable) == ()


def right_sides(ptable, value):
    told = sides_of(ptable.trade)
    if not is_tuple_of(value, len(told)) or not all([is_tuple_of(side, 4) for side in value]):
        return False
    return all([is_same(side[:3], one) and _is_right(ptable, side) for side, one in zip(value, told)])


def _is_right(ptable, side):
    kind, p, q, word = side
    if is_same(word, "first"):
        return ptable.may_take(kind, p, q)
    return is_same(word, "second") and ptable.may_take(kind, q, p)


class PriceSteward:
    """Never changes. At each moment it has paid what a cheapest serving of the row so far pays."""

    def __init__(self, ptable):
        for kind, p, q in price_clashes(ptable):
            raise NotRueless(kind, p, q)
        self._ptable = ptable
        self._trade = ptable.trade

    def choice(self, house, kind):
        house = house_of(self._trade, house)
        need_kind(self._trade, kind)
        way = self._way(house, kind)
        return None if way is None else way[0]

    def _way(self, house, letter):
        """(stand, house behind) of a beat, with the stand None, or of the choice; None if nobody takes it."""
        kept = None
        for stand, behind in choices(self._trade, house, letter):
            if kept is None or self._ptable.side(letter, kept[0], stand) == "second":
                kept = (stand, behind)
        return kept

    def after(self, house, letter):
        house = house_of(self._trade, house)
        need_letter(self._trade, letter)
        way = self._way(house, letter)
        return None if way is None else (way[1], dearness(self._ptable.prices, letter, way[0]))

    def walk(self, house, row):
        house = house_of(self._trade, house)
        need_row(self._trade.letters, row)
        paid = 0
        for at, letter in enumerate(row):
            way = self._way(house, letter)
            if way is None:
                return (at, house, paid)
            paid += dearness(self._ptable.prices, letter, way[0])
            house = way[1]
        return (len(row), house, paid)


def price_story(prices, *, most=20000):
    ptable = PriceTable(prices)
    return least_hunted(ptable, price_clashes(ptable), most)
