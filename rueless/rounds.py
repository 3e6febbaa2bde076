"""The slacks of houses of two, round by round: how much more at most one house pays than another one."""

from rueless.errors import TooGreat
from rueless.houses import all_houses
from rueless.prices import least_moves

# Greater than all that prices add up to, so it takes part in sums as if there were no end.
ENDLESS = 1000000000000000000


class Rounds:
    """Never changes. The slacks of all pairs of houses of two are worked out when it is made.

    Pairs are told by the numbers of their houses, ways by pair: (letter, x2, [(pair of x2 and y2, price more)]).
    """

    def __init__(self, prices, most):
        self.trade = prices.trade
        self.houses = all_houses(prices.trade, 2)
        greatest = max([price for row in prices.rows for price in row if price is not None], default=0)
        self._bound = len(self.houses) * len(self.houses) * greatest
        self._ways = _all_ways(prices, self.houses)
        self._slacks = {pair: 0 for pair in self._ways}
        # For each pair the (round, slack) at which its slack grew.
        self._grown = {pair: [(0, 0)] for pair in self._ways}
        self.many = self._run(most)

    def _run(self, most):
        """Does round after round, and returns how many changed a slack."""
        sources = _sources(self._ways)
        waiting = list(self._ways)
        for done in range(most):
            fresh = {pair: self._slack_by(pair) for pair in waiting}
            changed = [pair for pair in waiting if fresh[pair] != self._slacks[pair]]
            if not changed:
                return done
            for pair in changed:
                self._slacks[pair] = fresh[pair]
                self._grown[pair].append((done + 1, fresh[pair]))
            # Only a pair that leads to a changed one can change in the next round.
            waiting = list({source: True for pair in changed for source in sources.get(pair, [])})
        raise TooGreat(most)

    def _slack_by(self, pair):
        """The slack of a pair by those of the round ahead."""
        slack = 0
        for _, _, answers in self._ways[pair]:
            least = min([more + self._slacks.get(behind, 0) for behind, more in answers], default=ENDLESS)
            slack = max(slack, least)
        return ENDLESS if slack > self._bound else slack

    def slack(self, x, y):
        """The slack of two houses by their numbers, None if no number will do."""
        slack = self._slacks.get((x, y), 0)
        return None if slack == ENDLESS else slack

    def round_of(self, pair, number):
        """The first round in which the slack of a pair is at least this number, which it comes to."""
        return [done for done, slack in self._grown[pair] if slack >= number][0]

    def claim(self, pair, number, done):
        """(letter, x2, rests) by which the slack of a pair is at least this number in a round that was done.

        The rests are the (pair, number) that this needs, numbers from 1, in earlier rounds.
        """
        for letter, x2, answers in self._ways[pair]:
            rests = [(behind, number - more) for behind, more in answers]
            if all([self._is_reached(behind, rest, done - 1) for behind, rest in rests]):
                return (letter, x2, [one for one in rests if one[1] > 0])
        return None

    def _is_reached(self, pair, number, done):
        """Whether the slack of a pair, 0 of like houses, is at least this number behind so many rounds."""
        grown = self._grown.get(pair, [(0, 0)])
        return any([slack >= number for at, slack in grown if at <= done])


def _all_ways(prices, houses):
    """For each pair of unlike houses, by number, its ways."""
    numbers = {house: number for number, house in enumerate(houses)}
    moves = {}
    for letter in prices.trade.letters:
        for at, house in enumerate(houses):
            moves[(at, letter)] = [(numbers[one], price) for one, price in least_moves(prices, house, letter)]
    ways = {}
    for x in range(len(houses)):
        for y in range(len(houses)):
            if x != y:
                ways[(x, y)] = [(letter, x2, [((x2, y2), b - a) for y2, b in moves[(y, letter)]])
                                for letter in prices.trade.letters for x2, a in moves[(x, letter)]]
    return ways


def _sources(ways):
    """For each pair those whose ways lead to it."""
    sources = {}
    for pair in ways:
        for _, _, answers in ways[pair]:
            for behind, _ in answers:
                sources.setdefault(behind, []).append(pair)
    return sources
