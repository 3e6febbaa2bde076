"""Parties: comers of one kind that come several at once, each to a place of its own."""

from rueless.errors import NotRueless, PaperFault
from rueless.houses import house_of
from rueless.plain import is_number, is_same, is_sequence, is_tuple_of
from rueless.search import reached
from rueless.strikes import (answering, both_ways, check_pairs, check_strikes, clash_strikes, is_strike, need_clash,
                             need_sides, need_strikes, side_pairs, sides_of, told_pairs)
from rueless.trades import need_kind
from rueless.twos import Table
from rueless.weighing import Weighing
from rueless.words import WordMoves, need_word, need_word_row, short_words, sizes_of, words_of


class Parties:
    """Never changes. A row of words serves a house if each word finds as many places as it has letters."""

    def __init__(self, trade, sizes=None):
        self.sizes = sizes_of(trade, sizes)
        self.trade = trade
        self.words = words_of(trade, self.sizes)
        self._moves = WordMoves(trade)
        self._weighing = Weighing(trade, short_words(self.words), lambda house, word: self._moves.behind(house, word))

    def word_takers(self, house, word):
        house = house_of(self.trade, house)
        need_word(self.words, word)
        return tuple([stands for stands, _ in self._moves.choices(house, word)])

    def word_moves(self, house, word):
        house = house_of(self.trade, house)
        need_word(self.words, word)
        return self._moves.behind(house, word)

    def word_fronts(self, house, row):
        house = house_of(self.trade, house)
        need_word_row(self.words, row)
        found = [(house,)]
        for word in row:
            found.append(self._moves.front(found[-1], word))
        return tuple(found)

    def is_served(self, house, row):
        return len(self.word_fronts(house, row)[-1]) > 0

    def some_serving(self, house, row):
        found = self.word_fronts(house, row)
        good = [{one: True for one in found[-1]}]
        for word, front in zip(row[::-1], found[-2::-1]):
            good.append({one: True for one in front if self._good_choices(one, word, good[-1])})
        if not good[-1]:
            return None
        serving = []
        house = found[0][0]
        for word, ahead in zip(row, good[-2::-1]):
            stands, house = self._good_choices(house, word, ahead)[0]
            if word not in self.trade.beats:
                serving.append(stands)
        return tuple(serving)

    def _good_choices(self, house, word, good):
        return [(stands, behind) for stands, behind in self._moves.choices(house, word) if behind in good]

    def side(self, kind, p, q):
        return self._weighing.side(kind, p, q)

    def clashes(self):
        return self._weighing.clashes()

    def is_rueless(self):
        return self.clashes() == ()

    def _need_rueless(self):
        for kind, p, q in self.clashes():
            raise NotRueless(kind, p, q)

    def levels(self, house, kind):
        self._need_rueless()
        house = house_of(self.trade, house)
        need_kind(self.trade, kind)
        return self._levels(house, kind)

    def _levels(self, house, kind):
        stands = [stand for stand in sorted(set(house)) if self.trade.takes(stand, kind)]
        better = {x: [y for y in stands if self._weighing.side(kind, y, x) in ("first", "both")] for x in stands}
        # Without a clash a step joins any two stands: chains lead from each to its own level and all earlier ones.
        led = {stand: len(reached([stand], lambda one: better[one])) for stand in stands}
        ranks = sorted({led[stand] for stand in stands})
        return tuple([tuple([stand for stand in stands if led[stand] == rank]) for rank in ranks])

    def _placed(self, house, word):
        """The stands of the places of a house that take the kind of a word, the best levels first."""
        levels = self._levels(house, word[0])
        return [stand for level in levels for stand in house if stand in level]

    def choice(self, house, word):
        self._need_rueless()
        house = house_of(self.trade, house)
        need_word(self.words, word)
        return self._choice(house, word)

    def _choice(self, house, word):
        if word in self.trade.beats:
            return ()
        placed = self._placed(house, word)
        return tuple(sorted(placed[:len(word)])) if len(placed) >= len(word) else None

    def is_good_choice(self, house, word, stands):
        self._need_rueless()
        house = house_of(self.trade, house)
        need_word(self.words, word)
        if not is_sequence(stands) or not all([is_number(stand) for stand in stands]):
            return False
        if word in self.trade.beats:
            return len(stands) == 0
        placed = self._placed(house, word)
        if len(stands) != len(word) or not all([stands.count(stand) <= placed.count(stand) for stand in stands]):
            return False
        ranks = {stand: rank for rank, level in enumerate(self._levels(house, word[0])) for stand in level}
        return sorted([ranks[stand] for stand in stands]) == [ranks[stand] for stand in placed[:len(word)]]

    def walk(self, house, row):
        self._need_rueless()
        house = house_of(self.trade, house)
        need_word_row(self.words, row)
        for at, word in enumerate(row):
            stands = self._choice(house, word)
            if stands is None:
                return (at, house)
            house = [behind for one, behind in self._moves.choices(house, word) if one == stands][0]
        return (len(row), house)

    def party_paper(self):
        found = self.clashes()
        if found:
            kind, p, q = found[0]
            return ("parties rueful", kind, p, q, clash_strikes(self._weighing, kind, p, q))
        sides = self._weighing.all_sides()
        return ("parties", sides, side_pairs(self._weighing, sides))


def word_gap(trade, sizes):
    table = Table(trade)
    for kind, p, q in Parties(trade, sizes).clashes():
        if table.side(kind, p, q) != "none":
            return (kind, p, q)
    return None


def check_parties(trade, sizes, paper):
    letters = short_words(words_of(trade, sizes_of(trade, sizes)))
    known = WordMoves(trade)

    def moves(house, word):
        return known.behind(house, word)

    if is_tuple_of(paper, 3) and is_same(paper[0], "parties"):
        _, sides, rows = paper
        need_sides(sides_of(trade), sides)
        check_pairs(trade, told_pairs(trade, sides), rows, lambda pair: True, answering(letters, moves, moves))
    elif is_tuple_of(paper, 5) and is_same(paper[0], "parties rueful"):
        _, kind, p, q, rows = paper
        need_clash(trade, kind, p, q)
        need_strikes(both_ways(trade, kind, p, q), rows)
        check_strikes(rows, lambda row: is_strike(trade, letters, row), moves, lambda x, y: False)
    else:
        raise PaperFault(0)
