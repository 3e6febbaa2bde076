"""Stewards of rueless trades, who see the house alone and never lose a row."""

from rueless.houses import house_of, served
from rueless.moves import beat_move, comer_choices
from rueless.rows import need_row
from rueless.search import first_row
from rueless.trades import need_kind, need_letter, need_stand, need_stands
from rueless.verdict import need_rueless


class Steward:
    """Never changes. The table must be that of a rueless trade."""

    def __init__(self, table):
        need_rueless(table)
        self.table = table
        self.trade = table.trade
        self._ahead = {}
        for kind in table.trade.kinds:
            sides = table.sides(kind)
            self._ahead.update({(kind, p, q): True for p, q, side in sides if side == "first"})
            self._ahead.update({(kind, q, p): True for p, q, side in sides if side == "second"})

    def goes_ahead(self, kind, p, q):
        need_kind(self.trade, kind)
        need_stand(self.trade, p)
        need_stand(self.trade, q)
        return (kind, p, q) in self._ahead

    def ahead_pairs(self, kind):
        need_kind(self.trade, kind)
        return tuple(sorted([(p, q) for one, p, q in self._ahead if one == kind]))

    def choice(self, house, kind):
        house = house_of(self.trade, house)
        return self.set_choice(house, kind)

    def set_choice(self, stands, kind):
        need_stands(self.trade, stands)
        need_kind(self.trade, kind)
        kept = None
        for stand in sorted(set(stands)):
            if self.trade.takes(stand, kind) and (kept is None or (kind, stand, kept) in self._ahead):
                kept = stand
        return kept

    def after(self, house, letter):
        house = house_of(self.trade, house)
        need_letter(self.trade, letter)
        return self._step(house, letter)[1]

    def _step(self, house, letter):
        """The stand that takes a letter, None for a beat, and the house behind it, None if none takes it."""
        if letter in self.trade.beats:
            return (None, beat_move(self.trade, house, letter))
        stand = self.set_choice(house, letter)
        return (stand, None if stand is None else served(self.trade, house, letter, stand))

    def _steps(self, house, row):
        """The steps of the letters of a row that are served."""
        house = house_of(self.trade, house)
        need_row(self.trade.letters, row)
        steps = []
        for letter in row:
            stand, house = self._step(house, letter)
            if house is None:
                break
            steps.append((stand, house))
        return steps

    def walk(self, house, row):
        steps = self._steps(house, row)
        return (len(steps), steps[-1][1] if steps else house_of(self.trade, house))

    def serving(self, house, row):
        return tuple([stand for stand, _ in self._steps(house, row) if stand is not None])

    def is_served(self, house, row):
        return len(self._steps(house, row)) == len(row)


class Walker:
    """The steps of a steward, each worked out once: searches meet the same houses again and again."""

    def __init__(self, steward):
        self._steward = steward
        self._known = {}

    def behind(self, house, letter):
        key = (house, letter)
        if key not in self._known:
            self._known[key] = self._steward.after(house, letter)
        return self._known[key]

    def parting(self, house, other):
        """The first row that only the first of two houses serves, or None."""
        def lead(pair, letter):
            one = self.behind(pair[0], letter)
            two = None if one is None else self.behind(pair[1], letter)
            # Like houses serve the same rows.
            return None if one == two else (one, two)

        return first_row((house, other), self._steward.trade.letters, lead, lambda pair: pair[1] is None)


def house_within(steward, house, other):
    return house_parting(steward, house, other) is None


def house_parting(steward, house, other):
    house = house_of(steward.trade, house)
    other = house_of(steward.trade, other)
    return Walker(steward).parting(house, other)


def right_takers(steward, house, kind):
    if steward.choice(house, kind) is None:
        return ()
    chosen = steward.after(house, kind)
    walker = Walker(steward)
    behind = comer_choices(steward.trade, house_of(steward.trade, house), kind)
    return tuple([stand for stand, one in behind if walker.parting(chosen, one) is None])


def lost_row(steward, house, kind, stand):
    behind = served(steward.trade, house, kind, stand)
    return house_parting(steward, steward.after(house, kind), behind)
