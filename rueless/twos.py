"""The table of two: which houses of two places follow one another, and which of two choices is better."""

from rueless.moves import house_moves
from rueless.trades import need_letter
from rueless.weighing import Weighing


class Table:
    """Never changes. The relation of all houses of two places is worked out when it is made."""

    def __init__(self, trade):
        self.trade = trade
        self.weighing = Weighing(trade, trade.letters, lambda house, letter: house_moves(trade, house, letter))
        self.houses = self.weighing.houses
        self.relation = self.weighing.relation

    def is_followed(self, x, y):
        return self.weighing.is_followed(x, y)

    def rank(self, x, y):
        x = self.weighing.number_of(x)
        return self.relation.rank(x, self.weighing.number_of(y))

    def strike(self, x, y):
        x = self.weighing.number_of(x)
        strike = self.relation.strike(x, self.weighing.number_of(y))
        return None if strike is None else (self.trade.letters[strike[0]], self.houses[strike[1]])

    def answer(self, y, letter, house):
        y = self.weighing.number_of(y)
        need_letter(self.trade, letter)
        number = self.relation.answer(y, self.trade.letters.index(letter), self.weighing.number_of(house))
        return None if number is None else self.houses[number]

    def side(self, kind, p, q):
        return self.weighing.side(kind, p, q)

    def sides(self, kind):
        return self.weighing.sides(kind)

    def better(self, kind, p, q):
        word = self.side(kind, p, q)
        if word == "none":
            return None
        return q if word == "second" else p
