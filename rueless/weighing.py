"""Which houses of two places follow one another, and what this tells of two choices for a comer.

The same holds for the letters of a trade, for words, and where only rows that end at home count:
what differs is passed.
"""

from rueless.errors import CannotTake
from rueless.houses import all_houses, house_of
from rueless.relations import Relation
from rueless.trades import need_kind, need_stand


class Weighing:
    """Never changes. moves(house, letter) are the houses, ascending, to which a letter leads a house of two."""

    def __init__(self, trade, letters, moves, is_asked=None, is_let=None):
        """is_asked(house): whether what leads to a house must be answered; is_let(x, y): whether y may follow x."""
        self.trade = trade
        self.letters = letters
        self.houses = all_houses(trade, 2)
        self._numbers = {house: number for number, house in enumerate(self.houses)}
        ways = [[moves(house, letter) for house in self.houses] for letter in letters]
        answers = tuple([tuple([self._numbers_of(behind) for behind in by_house]) for by_house in ways])
        asks = answers
        if is_asked is not None:
            asked = [number for number, house in enumerate(self.houses) if is_asked(house)]
            asks = tuple([tuple([_those_of(numbers, asked) for numbers in by_house]) for by_house in answers])
        start = None
        if is_let is not None:
            start = tuple([tuple([is_let(x, y) for y in self.houses]) for x in self.houses])
        self.relation = Relation(len(self.houses), asks, answers=answers, start=start)
        self._words = {}
        for kind in trade.kinds:
            stands = taking_stands(trade, kind)
            self._words.update({(kind, p, q): self._word(kind, p, q) for p in stands for q in stands})

    def _word(self, kind, p, q):
        first, second = two_choices(self.trade, kind, p, q)
        return side_word(self.holds(second, first), self.holds(first, second))

    def _numbers_of(self, houses):
        return tuple([self._numbers[house] for house in houses])

    def number_of(self, house):
        """The number of any sequence that is a house of two."""
        return self._numbers[house_of(self.trade, house, places=2)]

    def holds(self, x, y):
        """As is_followed, of ascending houses of two that are known to be right."""
        return self.relation.holds(self._numbers[x], self._numbers[y])

    def is_followed(self, x, y):
        x = self.number_of(x)
        return self.relation.holds(x, self.number_of(y))

    def side(self, kind, p, q):
        need_two_takers(self.trade, kind, p, q)
        return self._words[(kind, p, q)]

    def sides(self, kind):
        stands = taking_stands(self.trade, kind)
        return tuple([(p, q, self._words[(kind, p, q)]) for p in stands for q in stands if p < q])

    def all_sides(self):
        """(kind, p, q, side) for all kinds in order and all p < q that take it."""
        return tuple([(kind, p, q, side) for kind in self.trade.kinds for p, q, side in self.sides(kind)])

    def clashes(self):
        return tuple([(kind, p, q) for kind, p, q, side in self.all_sides() if side == "none"])

    def needed_houses(self, pairs):
        """The needed pairs of the relation, with houses for their numbers."""
        wanted = [self._numbers_of(pair) for pair in pairs]
        return tuple([(self.houses[x], self.houses[y]) for x, y in self.relation.needed(wanted)])

    def struck_houses(self, pairs):
        """The strikes of the relation, with houses and letters for their numbers."""
        wanted = [self._numbers_of(pair) for pair in pairs]
        rows = self.relation.strikes(wanted)
        return tuple([(self.houses[x], self.houses[y], self.letters[at], self.houses[x2]) for x, y, at, x2 in rows])


def _those_of(numbers, let):
    return tuple([number for number in numbers if number in let])


def side_word(is_first, is_second):
    """The word for whether the first and whether the second of two choices follows the other one."""
    if is_first:
        return "both" if is_second else "first"
    return "second" if is_second else "none"


def taking_stands(trade, kind):
    """The stands that take a kind, ascending."""
    return [stand for stand in range(trade.stands) if trade.takes(stand, kind)]


def need_two_takers(trade, kind, p, q):
    """Raises the error of a kind, of two stands, or of one of them that does not take the kind."""
    need_kind(trade, kind)
    need_stand(trade, p)
    need_stand(trade, q)
    if not (trade.takes(p, kind) and trade.takes(q, kind)):
        raise CannotTake(kind)


def two_choices(trade, kind, p, q):
    """The house of p and q, two takers, behind a comer that is put into p, and behind one that is put into q."""
    first = house_of(trade, (trade.step(p, kind), q))
    return (first, house_of(trade, (p, trade.step(q, kind))))
