"""The bags of a house: the houses to which servings of rows lead it; and which of them follow one another."""

from rueless.errors import TooGreat
from rueless.houses import reached_houses
from rueless.moves import Moves
from rueless.partings import first_row_beside
from rueless.relations import Relation


class Bags:
    """Never changes. The houses are all bags of a house, ascending."""

    def __init__(self, trade, houses):
        self.trade = trade
        self.houses = houses
        self.moves = Moves(trade)
        self._numbers = {house: number for number, house in enumerate(houses)}
        ways = [[self.moves.behind(house, letter) for house in houses] for letter in trade.letters]
        asks = tuple([tuple([self._numbers_of(behind) for behind in by_house]) for by_house in ways])
        self.relation = Relation(len(houses), asks)

    def _numbers_of(self, houses):
        return tuple([self._numbers[house] for house in houses])

    def is_bag(self, house):
        return house in self._numbers

    def holds(self, x, y):
        """Whether the bag y follows the bag x."""
        return self.relation.holds(self._numbers[x], self._numbers[y])

    def needed_houses(self, pairs):
        """The needed pairs of the relation, with houses for their numbers."""
        wanted = [self._numbers_of(pair) for pair in pairs]
        return tuple([(self.houses[x], self.houses[y]) for x, y in self.relation.needed(wanted)])

    def best_moves(self, house, letter):
        """Those of the houses to which a letter leads a bag that follow all of them."""
        behind = self.moves.behind(house, letter)
        return [one for one in behind if all([self.holds(other, one) for other in behind])]

    def parting(self, house, other, most):
        """The first row that one bag serves and another one does not, or None; most as in first_row_beside."""
        return first_row_beside(self.moves, house, other, most, lambda x, y: self.holds(x, y))


def bags_of(trade, house, pairs):
    """The bags of a house; TooGreat(pairs) if the square of their number is more than that."""
    houses = reached_houses(trade, house)
    if len(houses) * len(houses) > pairs:
        raise TooGreat(pairs)
    return Bags(trade, houses)


def good_houses(bags):
    """The good bags, as the keys of a dict."""
    best = {}
    for house in bags.houses:
        letters = [letter for letter in bags.trade.letters if bags.moves.behind(house, letter)]
        best[house] = [bags.best_moves(house, letter) for letter in letters]
    good = {house: True for house in bags.houses}
    while True:
        kept = {house: True for house in good if all([any([one in good for one in moves]) for moves in best[house]])}
        if len(kept) == len(good):
            return good
        good = kept
