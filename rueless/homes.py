"""Homes: only rows count that leave all places in end stands."""

from rueless.errors import NotRueless, PaperFault, Refused
from rueless.houses import all_houses, house_of, is_house
from rueless.lots import need_few_places
from rueless.moves import Moves, beat_move, comer_choices
from rueless.plain import is_same, is_tuple_of
from rueless.rows import front_of, need_row
from rueless.search import first_row_among, reached
from rueless.strikes import (answering, both_ways, check_pairs, check_strikes, clash_strikes, is_strike, moves_known,
                             need_clash, need_sides, need_strikes, side_pairs, sides_of, told_pairs)
from rueless.trades import MOST_ENDLESS, need_kind, need_stands
from rueless.weighing import Weighing


class Homes:
    """Never changes. Which houses can come home, and which of two choices still comes home more often."""

    def __init__(self, trade, ends):
        need_stands(trade, ends)
        self.trade = trade
        self.ends = tuple(sorted(set(ends)))
        self._moves = Moves(trade)
        alive = {house: True for house in self.home_houses(2)}
        self._weighing = Weighing(trade, trade.letters, lambda house, letter: self._moves.behind(house, letter),
                                  lambda house: house in alive, lambda x, y: not is_unhomely(self.ends, x, y))

    def home_row(self, house):
        house = house_of(self.trade, house)
        return first_row_among([house], self.trade.letters, lambda one, letter: self._moves.behind(one, letter),
                               lambda one: is_home(self.ends, one))

    def home_houses(self, places):
        need_few_places(places)
        houses = all_houses(self.trade, places)
        sources = {house: [] for house in houses}
        for house in houses:
            for letter in self.trade.letters:
                for behind in self._moves.behind(house, letter):
                    sources[behind].append(house)
        home = [house for house in houses if is_home(self.ends, house)]
        return tuple(sorted(reached(home, lambda house: sources[house])))

    def ends_home(self, house, row):
        return any([is_home(self.ends, one) for one in front_of(self.trade, house, row)])

    def is_followed(self, x, y):
        return self._weighing.is_followed(x, y)

    def side(self, kind, p, q):
        return self._weighing.side(kind, p, q)

    def clashes(self):
        return self._weighing.clashes()

    def is_rueless(self):
        return self.clashes() == ()

    def _need_rueless(self):
        for kind, p, q in self.clashes():
            raise NotRueless(kind, p, q)

    def choice(self, house, kind):
        self._need_rueless()
        house = house_of(self.trade, house)
        need_kind(self.trade, kind)
        way = self._way(house, kind)
        return None if way is None else way[0]

    def _way(self, house, kind):
        """(stand, house behind) of the choice, None if no place takes the kind."""
        kept = None
        for stand, behind in comer_choices(self.trade, house, kind):
            if kept is None or self._weighing.side(kind, kept[0], stand) == "second":
                kept = (stand, behind)
        return kept

    def walk(self, house, row):
        self._need_rueless()
        house = house_of(self.trade, house)
        need_row(self.trade.letters, row)
        for at, letter in enumerate(row):
            if letter in self.trade.beats:
                house = beat_move(self.trade, house, letter)
                continue
            way = self._way(house, letter)
            if way is None:
                return (at, house, is_home(self.ends, house))
            house = way[1]
        return (len(row), house, is_home(self.ends, house))

    def home_paper(self):
        found = self.clashes()
        if found:
            kind, p, q = found[0]
            strikes = clash_strikes(self._weighing, kind, p, q)
            return ("homes rueful", kind, p, q, tuple([strike + (self.home_row(strike[3]),) for strike in strikes]))
        alive = self.home_houses(2)
        dead = tuple([house for house in self._weighing.houses if house not in alive])
        sides = self._weighing.all_sides()
        return ("homes", sides, dead, tuple([pair for pair in side_pairs(self._weighing, sides) if pair[0] in alive]))


def is_home(ends, house):
    return all([stand in ends for stand in house])


def is_unhomely(ends, x, y):
    """Whether x is home and y is not."""
    return is_home(ends, x) and not is_home(ends, y)


def rueless_ends(trade):
    if trade.stands > MOST_ENDLESS:
        raise Refused(trade.stands)
    found = [()]
    for stand in range(trade.stands):
        found.extend([ends + (stand,) for ends in list(found)])
    return tuple(sorted([ends for ends in found if Homes(trade, ends).is_rueless()]))


def check_homes(trade, ends, paper):
    need_stands(trade, ends)
    moves = moves_known(trade)
    if is_tuple_of(paper, 4) and is_same(paper[0], "homes"):
        _check_rueless(trade, ends, moves, paper[1:])
    elif is_tuple_of(paper, 5) and is_same(paper[0], "homes rueful"):
        _check_rueful(trade, ends, moves, paper[1:])
    else:
        raise PaperFault(0)


def _check_rueless(trade, ends, moves, told):
    sides, dead, rows = told
    need_sides(sides_of(trade), sides)
    _need_dead(trade, ends, moves, dead)
    gone = {house: True for house in dead}
    pairs = [pair for pair in told_pairs(trade, sides) if pair[0] not in gone]

    def asks(house, letter):
        return [one for one in moves(house, letter) if one not in gone]

    def is_let(pair):
        return pair[0] not in gone and not is_unhomely(ends, pair[0], pair[1])

    check_pairs(trade, pairs, rows, is_let, answering(trade.letters, asks, moves))


def _need_dead(trade, ends, moves, value):
    """Raises PaperFault(0) for any value that is no tuple of houses of two, none home, that no letter leaves."""
    if not isinstance(value, tuple) or not all([is_house(trade, house) and len(house) == 2 for house in value]):
        raise PaperFault(0)
    gone = {house: True for house in value}
    for house in value:
        behind = [one for letter in trade.letters for one in moves(house, letter)]
        if is_home(ends, house) or not all([one in gone for one in behind]):
            raise PaperFault(0)


def _check_rueful(trade, ends, moves, told):
    kind, p, q, rows = told
    need_clash(trade, kind, p, q)
    need_strikes([(x, y) for x, y in both_ways(trade, kind, p, q) if not is_unhomely(ends, x, y)], rows)

    def is_formed(row):
        if not is_tuple_of(row, 5) or not is_strike(trade, trade.letters, row[:4]):
            return False
        return _comes_home(trade, ends, row[3], row[4])

    check_strikes(rows, is_formed, moves, lambda x, y: is_unhomely(ends, x, y))


def _comes_home(trade, ends, house, value):
    """Whether any value is a row, of any length, by which a house can become home."""
    if not isinstance(value, str) or not all([sign in trade.letters for sign in value]):
        return False
    moves = Moves(trade)
    front = (house,)
    for letter in value:
        front = moves.front(front, letter)
    return any([is_home(ends, one) for one in front])
