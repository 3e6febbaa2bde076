"""The greatest relation in which each ask of one item has an answer of the other one."""


class Relation:
    """Never changes. The ranks of all pairs are found when it is made."""

    def __init__(self, many, asks, *, answers=None, start=None):
        self._items = list(range(many))
        self._asks = asks
        self._answers = asks if answers is None else answers
        self._ranks = _found_ranks(many, asks, self._answers, start)
        self.rounds = max([rank for ranks in self._ranks for rank in ranks if rank is not None], default=0)

    def holds(self, x, y):
        return self._ranks[x][y] is None

    def rank(self, x, y):
        return self._ranks[x][y]

    def pairs(self):
        return tuple([(x, y) for x in self._items for y in self._items if self._ranks[x][y] is None])

    def strike(self, x, y):
        rank = self._ranks[x][y]
        if rank is None or rank == 0:
            return None
        for letter, ways in enumerate(self._asks):
            for x2 in ways[x]:
                if self._is_beaten(x2, self._answers[letter][y], rank):
                    return (letter, x2)
        return None

    def _is_beaten(self, x2, answers, rank):
        """Whether an ask has a lesser rank than this against each of the answers."""
        ranks = [self._ranks[x2][y2] for y2 in answers]
        return all([one is not None and one < rank for one in ranks])

    def answer(self, y, letter, x2):
        for y2 in self._answers[letter][y]:
            if self._ranks[x2][y2] is None:
                return y2
        return None

    def needed(self, wanted):
        found = {}
        queue = [(x, y) for x, y in wanted]
        while queue:
            x, y = queue.pop()
            if x == y or (x, y) in found:
                continue
            found[(x, y)] = True
            for letter, ways in enumerate(self._asks):
                queue.extend([(x2, self.answer(y, letter, x2)) for x2 in ways[x]])
        return tuple(sorted(found))

    def strikes(self, wanted):
        found = {}
        queue = [(x, y) for x, y in wanted]
        while queue:
            x, y = queue.pop()
            if (x, y) in found or self._ranks[x][y] == 0:
                continue
            letter, x2 = self.strike(x, y)
            found[(x, y)] = (self._ranks[x][y], x, y, letter, x2)
            queue.extend([(x2, y2) for y2 in self._answers[letter][y]])
        return tuple([row[1:] for row in sorted(list(found.values()))])


def _found_ranks(many, asks, answers, start):
    """For each x the ranks of (x, y) by y."""
    sieve = Sieve(many, asks, answers)
    lost = [(x, y) for x in range(many) for y in range(many) if start is not None and not start[x][y]]
    beaten = sieve.unanswered()
    rank = 0
    while lost or beaten:
        sieve.put_rank(lost, rank)
        beaten = beaten + sieve.newly_beaten(lost)
        lost = sieve.lost_by(beaten)
        beaten = []
        rank += 1
    return sieve.ranks


class Sieve:
    """Pairs are lost round by round.

    For each letter, ask x2 and item y it counts the answers of y that are not lost against x2.
    """

    def __init__(self, many, asks, answers):
        self.ranks = [[None] * many for _ in range(many)]
        self._askers = [_turned(many, ways) for ways in asks]
        self._answerers = [_turned(many, ways) for ways in answers]
        self._left = [[[len(ways[y]) for y in range(many)] for _ in range(many)] for ways in answers]

    def unanswered(self):
        """The (letter, x2, y) for which y has no answer at all."""
        found = []
        for letter, rows in enumerate(self._left):
            for x2, row in enumerate(rows):
                found.extend([(letter, x2, y) for y, many in enumerate(row) if many == 0])
        return found

    def put_rank(self, pairs, rank):
        for x, y in pairs:
            self.ranks[x][y] = rank

    def newly_beaten(self, lost):
        """The (letter, x2, y) that have no answer any more, now that these pairs are lost too."""
        found = []
        for x2, y2 in lost:
            for letter, answerers in enumerate(self._answerers):
                row = self._left[letter][x2]
                for y in answerers[y2]:
                    row[y] -= 1
                    if row[y] == 0:
                        found.append((letter, x2, y))
        return found

    def lost_by(self, beaten):
        """The pairs that are lost by an ask without an answer, each once."""
        found = {}
        for letter, x2, y in beaten:
            for x in self._askers[letter][x2]:
                if self.ranks[x][y] is None:
                    found[(x, y)] = True
        return list(found)


def _turned(many, ways):
    """For each item those that lead to it."""
    sources = [[] for _ in range(many)]
    for source, items in enumerate(ways):
        for item in items:
            sources[item].append(source)
    return sources
