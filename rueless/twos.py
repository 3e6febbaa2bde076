"""The table of two: which houses of two places follow one another, and which of two choices is better."""

from rueless.errors import CannotTake
from rueless.houses import all_houses, house_of
from rueless.moves import house_moves
from rueless.relations import Relation
from rueless.trades import need_kind, need_letter, need_stand


class Table:
    """Never changes. The relation of all houses of two places is worked out when it is made."""

    def __init__(self, trade):
        self.trade = trade
        self.houses = all_houses(trade, 2)
        self._numbers = {house: number for number, house in enumerate(self.houses)}
        ways = [[house_moves(trade, house, letter) for house in self.houses] for letter in trade.letters]
        asks = tuple([tuple([self._numbers_of(moves) for moves in by_house]) for by_house in ways])
        self.relation = Relation(len(self.houses), asks)
        self._words = {}
        for kind in trade.kinds:
            stands = taking_stands(trade, kind)
            self._words.update({(kind, p, q): self._word(kind, p, q) for p in stands for q in stands})

    def _word(self, kind, p, q):
        first, second = two_choices(self.trade, kind, p, q)
        return side_word(self.holds(second, first), self.holds(first, second))

    def holds(self, x, y):
        """As is_followed, of ascending houses of two that are known to be right."""
        return self.relation.holds(self._numbers[x], self._numbers[y])

    def _numbers_of(self, houses):
        return tuple([self._numbers[house] for house in houses])

    def _number(self, house):
        return self._numbers[house_of(self.trade, house, places=2)]

    def is_followed(self, x, y):
        x = self._number(x)
        return self.relation.holds(x, self._number(y))

    def rank(self, x, y):
        x = self._number(x)
        return self.relation.rank(x, self._number(y))

    def strike(self, x, y):
        x = self._number(x)
        strike = self.relation.strike(x, self._number(y))
        return None if strike is None else (self.trade.letters[strike[0]], self.houses[strike[1]])

    def answer(self, y, letter, house):
        y = self._number(y)
        need_letter(self.trade, letter)
        number = self.relation.answer(y, self.trade.letters.index(letter), self._number(house))
        return None if number is None else self.houses[number]

    def side(self, kind, p, q):
        need_two_takers(self.trade, kind, p, q)
        return self._words[(kind, p, q)]

    def better(self, kind, p, q):
        word = self.side(kind, p, q)
        if word == "none":
            return None
        return q if word == "second" else p

    def sides(self, kind):
        stands = taking_stands(self.trade, kind)
        return tuple([(p, q, self._words[(kind, p, q)]) for p in stands for q in stands if p < q])

    def needed_houses(self, pairs):
        """The needed pairs of the relation, with houses for their numbers."""
        wanted = [self._numbers_of(pair) for pair in pairs]
        return tuple([(self.houses[x], self.houses[y]) for x, y in self.relation.needed(wanted)])

    def struck_houses(self, pairs):
        """The strikes of the relation, with houses and letters for their numbers."""
        wanted = [self._numbers_of(pair) for pair in pairs]
        rows = self.relation.strikes(wanted)
        letters = self.trade.letters
        return tuple([(self.houses[x], self.houses[y], letters[at], self.houses[x2]) for x, y, at, x2 in rows])


def side_word(is_first, is_second):
    """The word for whether the first and whether the second of two choices follows the other one."""
    if is_first:
        return "both" if is_second else "first"
    return "second" if is_second else "none"


def taking_stands(trade, kind):
    """The stands that take a kind, ascending."""
    need_kind(trade, kind)
    return [stand for stand in range(trade.stands) if trade.takes(stand, kind)]


def need_two_takers(trade, kind, p, q):
    """Raises the error of a kind, of two stands, or of one of them that does not take the kind."""
    need_kind(trade, kind)
    need_stand(trade, p)
    need_stand(trade, q)
    if not (trade.takes(p, kind) and trade.takes(q, kind)):
        raise CannotTake(kind)


def two_choices(trade, kind, p, q):
    """The house of p and q, two takers, behind a comer that is put into p, and behind one that is put into q."""
    first = house_of(trade, (trade.step(p, kind), q))
    return (first, house_of(trade, (p, trade.step(q, kind))))
