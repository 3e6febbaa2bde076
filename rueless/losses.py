"""Which pairs of a room of wants and a house are lost, whoever serves, and in how many letters."""

from rueless.moves import choices
from rueless.search import reached


def pair_ways(trade, wants, pair):
    """For each wanted letter of a room, in order, (letter, [(stand, pair behind)]), of a beat with the stand None."""
    room, house = pair
    ways = []
    for letter in wants.letters_at(room):
        behind = wants.after(room, letter)
        ways.append((letter, [(stand, (behind, one)) for stand, one in choices(trade, house, letter)]))
    return ways


class Losses:
    """Never changes. What is lost of all pairs to which wanted letters lead from the starts."""

    def __init__(self, trade, wants, starts):
        self._ways = {}
        self._trade = trade
        self._wants = wants
        pairs = reached(starts, lambda pair: self._behind(pair))
        sources = {}
        for pair in pairs:
            for one in self._behind(pair):
                sources.setdefault(one, []).append(pair)
        self._ranks = {}
        waiting = pairs
        rank = 0
        while waiting:
            rank += 1
            lost = [pair for pair in waiting if pair not in self._ranks and self._losing_letters(pair)]
            for pair in lost:
                self._ranks[pair] = rank
            waiting = list({source: True for pair in lost for source in sources.get(pair, [])})

    def ways_of(self, pair):
        if pair not in self._ways:
            self._ways[pair] = pair_ways(self._trade, self._wants, pair)
        return self._ways[pair]

    def _behind(self, pair):
        return [behind for _, ways in self.ways_of(pair) for _, behind in ways]

    def _losing_letters(self, pair):
        """The letters behind which all pairs are known to be lost."""
        return [letter for letter, ways in self.ways_of(pair) if all([behind in self._ranks for _, behind in ways])]

    def rank(self, pair):
        """In how many letters a pair is lost at least, None if it is not."""
        return self._ranks.get(pair)

    def losing_letter(self, pair):
        """The first letter that loses a lost pair in as few letters as its rank tells."""
        for letter, ways in self.ways_of(pair):
            ranks = [self._ranks.get(behind) for _, behind in ways]
            if all([one is not None and one < self._ranks[pair] for one in ranks]):
                return letter
        return None

    def kept(self, pair, kind):
        """(stand, pair behind) for the choices of a wanted kind behind which a pair is not lost, by stand."""
        ways = [way for letter, found in self.ways_of(pair) if letter == kind for way in found]
        return [(stand, behind) for stand, behind in ways if behind not in self._ranks]
