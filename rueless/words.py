"""Words: a kind that comes several times at once, or a beat."""

from itertools import combinations

from rueless.errors import BadSizes, BadWord
from rueless.moves import beat_move, house_less, house_more
from rueless.plain import is_integer, is_sequence, is_sign

MOST_SIZE = 6
MOST_WORDS = 200


def sizes_of(trade, value):
    """The sizes of all kinds in order; BadSizes for any value that tells none."""
    if value is None:
        return (1,) * len(trade.kinds)
    if isinstance(value, dict):
        for kind in value:
            if not is_sign(kind, trade.kinds) or not _is_size(value[kind]):
                raise BadSizes(kind)
        return tuple([value.get(kind, 1) for kind in trade.kinds])
    if not is_sequence(value) or len(value) != len(trade.kinds):
        raise BadSizes(-1)
    for kind, size in zip(trade.kinds, value):
        if not _is_size(size):
            raise BadSizes(kind)
    return tuple(value)


def _is_size(value):
    return is_integer(value) and 1 <= value <= MOST_SIZE


def words_of(trade, sizes):
    """All words, by kind, then length, then the beats."""
    words = [kind * many for kind, size in zip(trade.kinds, sizes) for many in range(1, size + 1)]
    return tuple(words + list(trade.beats))


def short_words(words):
    """The words of one or two letters, which decide all."""
    return tuple([word for word in words if len(word) <= 2])


def need_word(words, value):
    if value not in words:
        raise BadWord(-1)


def need_word_row(words, value):
    """Raises BadWord for any value that is no row of these words."""
    if not is_sequence(value):
        raise BadWord(-1)
    for at, word in enumerate(value):
        if word not in words:
            raise BadWord(at)
    if len(value) > MOST_WORDS:
        raise BadWord(MOST_WORDS)


def word_choices(trade, house, word):
    """(stands, house behind) for each tuple of stands that may take a word, ascending; a beat has ()."""
    if word in trade.beats:
        return [((), beat_move(trade, house, word))]
    taking = [stand for stand in house if trade.takes(stand, word[0])]
    ways = []
    for stands in sorted({one for one in combinations(taking, len(word))}):
        behind = house
        for stand in stands:
            behind = house_less(behind, stand)
        for stand in stands:
            behind = house_more(behind, trade.step(stand, word[0]))
        ways.append((stands, behind))
    return ways


class WordMoves:
    """The ways of words, each worked out once."""

    def __init__(self, trade):
        self._trade = trade
        self._known = {}

    def choices(self, house, word):
        key = (house, word)
        if key not in self._known:
            self._known[key] = word_choices(self._trade, house, word)
        return self._known[key]

    def behind(self, house, word):
        """All houses to which a word leads, ascending."""
        return tuple(sorted({behind for _, behind in self.choices(house, word)}))

    def front(self, front, word):
        """The front to which a word leads a front."""
        return tuple(sorted({behind for house in front for _, behind in self.choices(house, word)}))
