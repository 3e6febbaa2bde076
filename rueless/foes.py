"""What the choices for a comer lose in one house, and the trees by which a foe beats all its stewards."""

from rueless.bags import Bags, good_houses
from rueless.houses import reached_houses
from rueless.moves import choices, comer_choices


class Foe:
    """What is found of the bags of one house; most bounds each search for a row by itself."""

    def __init__(self, trade, house, most):
        self._trade = trade
        self._most = most
        self._bags = Bags(trade, reached_houses(trade, house))
        self._partings = {}
        self._trees = {}
        self._depths = {}

    def _parting(self, house, other):
        key = (house, other)
        if key not in self._partings:
            self._partings[key] = self._bags.parting(house, other, self._most)
        return self._partings[key]

    def loss(self, house, kind, stand):
        """(other, row) with the least other choice that keeps a row that this one loses, and the first row; or None."""
        ways = comer_choices(self._trade, house, kind)
        chosen = [behind for one, behind in ways if one == stand][0]
        for other, behind in ways:
            row = self._parting(behind, chosen)
            if row is not None:
                return (other, row)
        return None

    def tree(self, house):
        """The tree of a bag, or None."""
        self._grow(house)
        return self._trees.get(house)

    def depth(self, house):
        """The depth of the tree of a bag, or None."""
        self._grow(house)
        return self._depths.get(house)

    def _grow(self, house):
        """Finds the trees of all bags, depth by depth, up to that of a house."""
        good = good_houses(self._bags)
        rest = [one for one in self._bags.houses if one not in good]
        depth = 0
        while house in rest:
            depth += 1
            found = {one: self._tree_by_trees(one) for one in rest}
            rest = [one for one in rest if found[one] is None]
            for one in found:
                if found[one] is not None:
                    self._trees[one] = found[one]
                    self._depths[one] = depth

    def _tree_by_trees(self, house):
        """The tree of a house that goes on with the trees that are found already, or None."""
        for letter in self._trade.letters:
            ways = choices(self._trade, house, letter)
            branches = [self._branch(house, letter, stand, behind) for stand, behind in ways]
            if branches and all([branch is not None for branch in branches]):
                return (letter, tuple(branches))
        return None

    def _branch(self, house, letter, stand, behind):
        """The branch of a choice, None if it loses no row and its house has no tree yet."""
        lost = None if stand is None else self.loss(house, letter, stand)
        if lost is not None:
            return (stand, "row") + lost
        return (stand, "on", self._trees[behind]) if behind in self._trees else None
