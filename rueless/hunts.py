"""Hunts for stories of prices: rows that cost more behind the one choice for a comer than behind the other one."""

from rueless.errors import TooGreat
from rueless.prices import costs_behind
from rueless.weighing import two_choices


class Hunt:
    """Changes: goes on, letter by letter, in the search for the first row that is cheaper behind one choice.

    States are pairs of costs, as costs_behind has them: those of the choice and those of the other one.
    """

    def __init__(self, ptable, costs, other):
        self._ptable = ptable
        # The first row, None while there is none; how many letters the rows have that were looked at.
        self.row = None
        self.letters = 0
        self._met = {}
        self._band = []
        self._meet(costs, other, "")

    def _meet(self, costs, other, row):
        """Looks at what a row leads to, unless an earlier row led to it, too."""
        costs = [(x, cost) for x, cost in costs if not self._is_covered(x, cost, other)]
        if self.row is not None or not costs:
            return
        if not other or min([cost for _, cost in costs]) < min([cost for _, cost in other]):
            self.row = row
            return
        # What all costs have in common makes no difference to rows behind.
        base = costs[0][1]
        state = (tuple([(x, cost - base) for x, cost in costs]), tuple([(y, cost - base) for y, cost in other]))
        if state not in self._met:
            self._met[state] = True
            self._band.append((state, row))

    def _is_covered(self, x, cost, other):
        """Whether some house of the others never costs more behind any row, so that x is of no use."""
        for y, told in other:
            slack = self._ptable.slack(x, y)
            if slack is not None and told + slack <= cost:
                return True
        return False

    def met(self):
        """How many states were met that are not what is looked for."""
        return len(self._met)

    def is_over(self):
        return self.row is not None or not self._band

    def go_on(self):
        """Looks at all rows with one letter more."""
        band = self._band
        self._band = []
        for state, row in band:
            for letter in self._ptable.trade.letters:
                costs, other = [costs_behind(self._ptable.prices, one, letter) for one in state]
                self._meet(costs, other, row + letter)
        self.letters += 1

    def least(self):
        """The letters of the row; as many as it has at least, if it is not found yet; None if there is none."""
        if self.row is not None:
            return len(self.row)
        return self.letters + 1 if self._band else None


class Chase:
    """Changes: both hunts of a clash."""

    def __init__(self, ptable, clash):
        kind, p, q = clash
        first, second = two_choices(ptable.trade, kind, p, q)
        one = ((first, ptable.prices.price(kind, p)),)
        two = ((second, ptable.prices.price(kind, q)),)
        self.clash = clash
        self.hunts = (Hunt(ptable, one, two), Hunt(ptable, two, one))

    def least(self):
        """How many letters its story has, at least if it is not found yet; None if there is none."""
        letters = [hunt.least() for hunt in self.hunts]
        return None if None in letters else sum(letters)

    def is_over(self):
        return all([hunt.is_over() for hunt in self.hunts])

    def go_on(self):
        for hunt in self.hunts:
            if not hunt.is_over():
                hunt.go_on()

    def met(self):
        return max([hunt.met() for hunt in self.hunts])


def least_hunted(ptable, clashes, most):
    """The story of fewest letters, of these the first, of the clashes of prices; None if there is none.

    TooGreat(most) comes only if rows lead to more than so many pairs of costs, in all clashes.
    """
    chases = [Chase(ptable, clash) for clash in clashes]
    while True:
        told = [(chase.least(), at) for at, chase in enumerate(chases) if chase.least() is not None]
        if not told:
            return None
        best = chases[min(told)[1]]
        if best.is_over():
            u, v = [hunt.row for hunt in best.hunts]
            return best.clash + (u, v)
        best.go_on()
        if sum([chase.met() for chase in chases]) > most:
            raise TooGreat(most)
