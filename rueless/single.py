"""One house: whether it is rueless, in any trade; and the foe who beats all stewards of a rueful one."""

from rueless.bags import bags_of, good_houses
from rueless.errors import BadHouse, CannotTake, Refused
from rueless.foes import Foe
from rueless.houses import house_of, is_house, reached_houses, takers
from rueless.moves import choices, comer_choices
from rueless.plain import is_number, is_same, is_sign, is_tuple_of
from rueless.rows import can_serve, is_row, need_row
from rueless.strikes import is_closed
from rueless.trades import need_kind


class Single:
    """Never changes. The bags of one house, and which of them are good."""

    def __init__(self, table, house, *, pairs=5000):
        self._trade = table.trade
        self.house = house_of(table.trade, house)
        self._bags = bags_of(table.trade, house, pairs)
        self.houses = self._bags.houses
        self._good = good_houses(self._bags)
        self.good = tuple([one for one in self.houses if one in self._good])

    def is_rueless(self):
        return self.house in self._good

    def _bag(self, house, at):
        house = house_of(self._trade, house)
        if not self._bags.is_bag(house):
            raise Refused(at)
        return house

    def is_followed(self, one, other):
        one = self._bag(one, 0)
        return self._bags.holds(one, self._bag(other, 1))

    def choice(self, house, kind):
        house = self._bag(house, 0)
        need_kind(self._trade, kind)
        if not comer_choices(self._trade, house, kind):
            raise CannotTake(kind)
        way = self._way(house, kind)
        return None if way is None else way[0]

    def _way(self, house, letter):
        """(stand, house behind) of a beat, with the stand None, or of the choice; None if there is none."""
        best = self._bags.best_moves(house, letter)
        for stand, behind in choices(self._trade, house, letter):
            if behind in self._good and behind in best:
                return (stand, behind)
        return None

    def walk(self, row):
        need_row(self._trade.letters, row)
        if not self.is_rueless():
            return None
        house = self.house
        for at, letter in enumerate(row):
            way = self._way(house, letter)
            if way is None:
                return (at, house)
            house = way[1]
        return (len(row), house)

    def paper(self):
        if not self.is_rueless():
            raise Refused(0)
        letters = self._trade.letters
        steps = {self.house: ()}
        queue = [self.house]
        while queue:
            house = queue.pop()
            ways = tuple([self._way(house, letter) for letter in letters])
            steps[house] = ways
            for way in ways:
                if way is not None and way[1] not in steps:
                    steps[way[1]] = ()
                    queue.append(way[1])
        told = tuple([(house, steps[house]) for house in sorted(list(steps))])
        pairs = [(behind, way[1]) for house, ways in told for letter, way in zip(letters, ways)
                 for behind in self._bags.moves.behind(house, letter)]
        return ("single", self.house, self._bags.needed_houses(pairs), told)


def single_holds(trade, house, value):
    try:
        house = house_of(trade, house)
    except BadHouse:
        return False
    if not is_tuple_of(value, 4) or not is_same(value[:2], ("single", house)):
        return False
    _, _, relation, steps = value
    if not is_closed(trade, relation) or not isinstance(steps, tuple):
        return False
    if not all([is_tuple_of(one, 2) for one in steps]):
        return False
    if not all([is_house(trade, one) and len(one) == len(house) for one, _ in steps]):
        return False
    told = {one: True for one, _ in steps}
    if len(told) < len(steps) or house not in told:
        return False
    pairs = {pair: True for pair in relation}
    return all([_are_right_ways(trade, one, ways, told, pairs) for one, ways in steps])


def _are_right_ways(trade, house, value, told, pairs):
    """Whether any value tells for each letter a right way of a house to a house that is told."""
    if not is_tuple_of(value, len(trade.letters)):
        return False
    ways = [choices(trade, house, letter) for letter in trade.letters]
    return all([_is_right_way(let, way, told, pairs) for let, way in zip(ways, value)])


def _is_right_way(ways, value, told, pairs):
    if not ways:
        return value is None
    if not any([is_same(value, way) for way in ways]) or value[1] not in told:
        return False
    return all([behind == value[1] or (behind, value[1]) in pairs for _, behind in ways])


def right_choices(table, house, kind, *, most=20000):
    house = house_of(table.trade, house)
    stands = takers(table.trade, house, kind)
    if not stands:
        raise CannotTake(kind)
    foe = Foe(table.trade, house, most)
    return tuple([stand for stand in stands if foe.loss(house, kind, stand) is None])


def twos_tell(table, house):
    clashes = table.weighing.clashes()
    bags = reached_houses(table.trade, house)
    return not any([p in bag and q in bag for bag in bags for _, p, q in clashes])


def foe_tree(table, house, *, most=20000):
    house = house_of(table.trade, house)
    return Foe(table.trade, house, most).tree(house)


def foe_depth(table, house, *, most=20000):
    house = house_of(table.trade, house)
    return Foe(table.trade, house, most).depth(house)


def foe_paper(table, house, *, most=20000):
    house = house_of(table.trade, house)
    tree = foe_tree(table, house, most=most)
    if tree is None:
        raise Refused(0)
    return ("foe", house, tree)


def tree_holds(trade, house, value):
    try:
        house = house_of(trade, house)
    except BadHouse:
        return False
    return is_tuple_of(value, 3) and is_same(value[:2], ("foe", house)) and _is_tree(trade, house, value[2])


def _is_tree(trade, house, value):
    if not is_tuple_of(value, 2) or not is_sign(value[0], trade.letters):
        return False
    ways = choices(trade, house, value[0])
    if not ways or not is_tuple_of(value[1], len(ways)):
        return False
    return all([_is_branch(trade, ways, way, branch) for way, branch in zip(ways, value[1])])


def _is_branch(trade, ways, way, value):
    """Whether any value is a branch of one of the ways, (stand, house behind), in which a house takes a letter."""
    stand, behind = way
    if not isinstance(value, tuple) or len(value) < 3 or not is_same(value[0], stand):
        return False
    if is_same(value[1], "on"):
        return len(value) == 3 and _is_tree(trade, behind, value[2])
    if not is_same(value[1], "row") or len(value) != 4 or not is_number(value[2]):
        return False
    _, _, other, row = value
    if not is_row(trade.letters, row) or can_serve(trade, behind, row):
        return False
    return any([one == other and can_serve(trade, led, row) for one, led in ways])
