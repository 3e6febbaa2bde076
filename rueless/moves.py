"""The moves of houses, where all that is passed is known to be right.

Houses are ascending tuples here, and letters are letters of the trade.
"""


def stands_of(house):
    """The stands of a house, each once, ascending."""
    return sorted(set(house))


def house_less(house, stand):
    """The house without one place in this stand."""
    at = house.index(stand)
    return house[:at] + house[at + 1:]


def house_more(house, stand):
    """The house with one place more in this stand."""
    return tuple(sorted(house + (stand,)))


def comer_choices(trade, house, kind):
    """(stand, house behind) for each stand of the house that takes the kind, by stand."""
    steps = trade.steps(kind)
    taking = [stand for stand in stands_of(house) if steps[stand] is not None]
    return [(stand, house_more(house_less(house, stand), steps[stand])) for stand in taking]


def beat_move(trade, house, beat):
    steps = trade.steps(beat)
    return tuple(sorted([steps[stand] for stand in house]))


def choices(trade, house, letter):
    """As comer_choices; a beat has one choice, of the stand None."""
    if letter in trade.beats:
        return [(None, beat_move(trade, house, letter))]
    return comer_choices(trade, house, letter)


def house_moves(trade, house, letter):
    """All houses to which a letter leads, ascending."""
    return tuple(sorted({behind for _, behind in choices(trade, house, letter)}))


class Moves:
    """The moves of a trade, each worked out once: searches meet the same houses again and again."""

    def __init__(self, trade):
        self.trade = trade
        self._houses = {}
        self._fronts = {}

    def behind(self, house, letter):
        key = (house, letter)
        if key not in self._houses:
            self._houses[key] = house_moves(self.trade, house, letter)
        return self._houses[key]

    def front(self, front, letter):
        """The front to which a letter leads a front."""
        key = (front, letter)
        if key not in self._fronts:
            self._fronts[key] = tuple(sorted({move for house in front for move in self.behind(house, letter)}))
        return self._fronts[key]
