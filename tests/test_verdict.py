import itertools
import random
import unittest

from helpers import (CROSSED, NO_SEQUENCES, RING, ROOMS, SILENT, STILL, TIDE, Case, Spec, no_letters, random_house,
                     specs)
from rueless.errors import BadHouse, CannotTake, NoLetter, NotRueless
from rueless.twos import Table
from rueless.verdict import clashes, first_clash, is_rueless, is_sure, need_rueless, sure_choices

TOLD = [CROSSED, RING, ROOMS, SILENT, STILL, TIDE]


def takers(spec, house, kind):
    return sorted({stand for stand in house if spec.ways[kind][stand] is not None})


def slow_sure(spec, table, house, kind):
    """Stands to which chains lead from all takers: all chains, tried out."""
    stands = takers(spec, house, kind)

    def chains_lead(start, end):
        ways = [way for many in range(len(stands)) for way in itertools.permutations(stands, many + 1)
                if way[0] == start and way[-1] == end]
        return any(all(table.side(kind, following, one) in ("first", "both") for one, following in zip(way, way[1:]))
                   for way in ways)
    return tuple(stand for stand in stands if all(chains_lead(one, stand) for one in stands))


def slow_is_rueless_house(spec, house, most):
    """Whether a steward can keep all rows of so many letters: tried over all that he may do."""
    def rows_of(front, length):
        return {row for row in spec.rows(length) if any(spec.serves(one, row) for one in front)}

    def keeps(one, wanted, length):
        if length == 0:
            return True
        for letter in spec.letters:
            behind = {row[1:] for row in wanted if row[:1] == letter}
            if behind and not any(behind <= rows_of([move], length - 1) and keeps(move, behind, length - 1)
                                  for move in spec.moves(one, letter)):
                return False
        return True
    return keeps(house, rows_of([house], most), most)


class ClashTest(Case):
    def test_clashes(self):
        found = set()
        for spec in specs(42, 80) + TOLD:
            table = Table(spec.trade)
            told = tuple((kind, p, q) for kind in spec.kinds for p, q, side in table.sides(kind) if side == "none")
            found.add(bool(told))
            self.assertSame(clashes(table=table), told)
            self.assertSame(first_clash(table=table), told[0] if told else None)
            self.assertIs(is_rueless(table=table), not told)
            if told:
                self.fails(NotRueless(*told[0]), need_rueless, table)
            else:
                self.assertIsNone(need_rueless(table=table))
        self.assertEqual(found, {True, False})

    def test_told_trades(self):
        self.assertSame(clashes(Table(CROSSED.trade)), (("c", 0, 1),))
        for spec in (ROOMS, RING, TIDE, SILENT, STILL):
            self.assertSame(clashes(Table(spec.trade)), ())

    def test_the_verdict_against_stewards_of_few_letters(self):
        dice = random.Random(43)
        for spec in specs(44, 25, stands=(2, 3), kinds=("a", "ab", "abc"), beats=("", "0")) + TOLD:
            table = Table(spec.trade)
            if is_rueless(table):
                for _ in range(3):
                    self.assertTrue(slow_is_rueless_house(spec, random_house(dice, spec, 3), 3))
        self.assertFalse(slow_is_rueless_house(CROSSED, (0, 1), 2))


class SureTest(Case):
    def test_sure_choices(self):
        dice = random.Random(45)
        for spec in specs(46, 80, stands=(2, 3, 4)) + TOLD:
            table = Table(spec.trade)
            for _ in range(5):
                house = random_house(dice, spec, 4)
                for kind in spec.kinds:
                    if not takers(spec, house, kind):
                        self.fails(CannotTake(kind), sure_choices, table, house, kind)
                        continue
                    told = self.agrees(sure_choices, table=table, house=list(house)[::-1], kind=kind)
                    self.assertSame(told, slow_sure(spec, table, house, kind))
                    if is_rueless(table):
                        self.assertNotEqual(told, ())
                    for stand in told:
                        for other, behind in spec.choices(house, kind):
                            chosen = dict(spec.choices(house, kind))[stand]
                            self.assertIsNone(spec.parting(behind, chosen), (spec.ways, house, kind, stand, other))

    def test_is_sure(self):
        dice = random.Random(47)
        found = []
        for spec in specs(48, 80, stands=(2, 3)) + TOLD:
            table = Table(spec.trade)
            house = random_house(dice, spec, 3)
            told = self.agrees(is_sure, table=table, house=list(house)[::-1])
            self.assertIs(told, self.slow_is_sure(spec, table, house))
            found.append((told, is_rueless(table)))
            if told:
                self.assertTrue(slow_is_rueless_house(spec, house, 2))
        self.assertEqual(set(found), {(True, True), (True, False), (False, False)})

    def slow_is_sure(self, spec, table, house):
        met, fresh = set(), {house}
        while fresh:
            met |= fresh
            behind = {spec.moves(one, beat)[0] for one in fresh for beat in spec.beats}
            for one in fresh:
                for kind in spec.kinds:
                    if takers(spec, one, kind):
                        sure = slow_sure(spec, table, one, kind)
                        if not sure:
                            return False
                        behind |= {move for stand, move in spec.choices(one, kind) if stand in sure}
            fresh = behind - met
        return True

    def test_a_ring_of_better_stands(self):
        table = Table(RING.trade)
        self.assertSame(table.sides("a"), ((0, 1, "second"), (0, 2, "first"), (1, 2, "second")))
        self.assertSame(sure_choices(table, (0, 1, 2), "a"), (0, 1, 2))
        self.assertSame(sure_choices(table, (0, 1), "a"), (1,))
        self.assertSame(sure_choices(Table(CROSSED.trade), (0, 1), "c"), ())
        self.assertIs(is_sure(Table(CROSSED.trade), [1, 0]), False)
        self.assertIs(is_sure(Table(CROSSED.trade), [1, 1, 2]), True)
        self.assertIs(is_sure(Table(Spec(1, {}).trade), ()), True)

    def test_wrong_values_in_order(self):
        table = Table(ROOMS.trade)
        for value in NO_SEQUENCES:
            self.fails(BadHouse(-1), sure_choices, table, value, "x")
            self.fails(BadHouse(-1), is_sure, table, value)
        self.fails(BadHouse(1), sure_choices, table, [2, 3], "x")
        self.fails(BadHouse(6), is_sure, table, [0] * 7)
        for value in no_letters("ab"):
            self.fails(NoLetter(value), sure_choices, table, [2], value)
        self.fails(CannotTake("b"), sure_choices, table, [0, 2, 0], "b")
        self.fails(CannotTake("a"), sure_choices, table, (), "a")


if __name__ == "__main__":
    unittest.main()
