import itertools
import random
import unittest

from helpers import (ANY, CROSSED, NO_SEQUENCES, RING, ROOMS, SILENT, STILL, TIDE, Case, Spec, bends, choices,
                     ending_spec, fault_of, no_stands, specs, without)
from rueless.errors import BadHouse, NoStand, PaperFault, Refused
from rueless.houses import is_house
from rueless.lots import (check_lot, first_couples, first_sets, is_rueless_lot, lot_clashes, lot_houses, lot_pairs,
                          lot_paper, pair_way)
from rueless.single import Single
from rueless.strikes import is_closed, verdict_paper
from rueless.twos import Table
from rueless.verdict import clashes

EBB = Spec(3, {"a": [2, None, None], "b": [None, 2, None], "c": [2, 2, None]}, {"0": [1, 0, 2]})
TOLD = [CROSSED, RING, ROOMS, SILENT, STILL, TIDE, EBB]


def slow_lot(spec, firsts, most):
    """The houses of the lot of at most so many places: by letters, and by taking places away."""
    found = []
    for places in range(most + 1):
        found += list(itertools.combinations_with_replacement(sorted(set(firsts)), places))
    seen = set(found)
    for house in found:
        behind = [one for letter in spec.letters for one in spec.moves(house, letter)]
        behind += [house[:at] + house[at + 1:] for at in range(len(house))]
        for one in behind:
            if one not in seen:
                seen.add(one)
                found.append(one)
    return seen


def random_firsts(dice, spec):
    return [dice.randrange(spec.stands) for _ in range(dice.randrange(4))]


def cases(seed, many, stands=(1, 2, 3, 4)):
    dice = random.Random(seed)
    for spec in specs(seed + 1, many, stands=stands, kinds=("a", "ab", "abc"), empty=0.55) + TOLD:
        yield spec, Table(spec.trade), random_firsts(dice, spec)


class LotTest(Case):
    def test_houses(self):
        for spec, table, firsts in cases(460, 60):
            lot = slow_lot(spec, firsts, 4)
            for places in range(5):
                told = tuple(sorted(house for house in lot if len(house) == places))
                self.assertSame(self.agrees(lot_houses, table=table, firsts=firsts, places=places), told)
            told = tuple(sorted(house for house in lot if len(house) == 2))
            self.assertSame(self.agrees(lot_pairs, table=table, firsts=firsts), told)

    def test_ways(self):
        many = 0
        for spec, table, firsts in cases(461, 60):
            starts = list(itertools.combinations_with_replacement(sorted(set(firsts)), 2))
            lot = [house for house in slow_lot(spec, firsts, 2) if len(house) == 2]
            rows = {}
            level = {"": set(starts)}
            while set(rows) != set(lot):
                for row, houses in level.items():
                    for house in houses:
                        rows.setdefault(house, row)
                level = {row + letter: {one for house in houses for one in spec.moves(house, letter)}
                         for row, houses in level.items() for letter in spec.letters}
                kept = {}
                for row, houses in level.items():
                    # What came up by an earlier row leads to nothing new.
                    fresh = frozenset(houses) - set(rows)
                    if fresh:
                        kept[row] = fresh
                level = kept
            for house in lot:
                told = min((start, serving) for start in starts for serving, way in spec.servings(start, rows[house])
                           if way[-1] == house)
                many += rows[house] != ""
                way = self.agrees(pair_way, table=table, firsts=firsts, house=list(house)[::-1])
                self.assertSame(way, (told[0], rows[house], told[1]))
            for house in itertools.combinations_with_replacement(range(spec.stands), 2):
                if house not in lot:
                    self.fails(Refused(0), pair_way, table, firsts, house)
        self.assertGreater(many, 50)

    def test_clashes(self):
        found = set()
        for spec, table, firsts in cases(462, 100):
            lot = slow_lot(spec, firsts, 2)
            told = tuple(one for one in clashes(table) if one[1:] in lot)
            found.add((len(told) > 0, len(told) < len(clashes(table))))
            self.assertSame(self.agrees(lot_clashes, table=table, firsts=firsts), told)
            self.assertIs(self.agrees(is_rueless_lot, table=table, firsts=firsts), told == ())
            self.assertSame(lot_clashes(table, firsts + firsts[::-1]), told)
        self.assertEqual(found, {(True, True), (True, False), (False, True), (False, False)})

    def test_the_houses_of_a_rueless_lot_are_rueless(self):
        found = set()
        for spec, table, firsts in cases(463, 40, stands=(2, 3)):
            rueful = [house for house in slow_lot(spec, firsts, 3) if not Single(table, house).is_rueless()]
            found.add(rueful == [])
            self.assertIs(is_rueless_lot(table, firsts), rueful == [])
        self.assertEqual(found, {True, False})

    def test_couples_and_sets(self):
        found = set()
        for spec, table, _ in cases(464, 60):
            stands = range(spec.stands)
            couples = tuple(two for two in itertools.combinations_with_replacement(stands, 2)
                            if not any(one[1:] in slow_lot(spec, two, 2) for one in clashes(table)))
            self.assertSame(self.agrees(first_couples, table=table), couples)
            sets = [one for many in range(spec.stands + 1) for one in itertools.combinations(stands, many)
                    if is_rueless_lot(table, one)]
            greatest = tuple(sorted(one for one in sets if not any(set(one) < set(other) for other in sets)))
            found.add(greatest)
            self.assertSame(self.agrees(first_sets, table=table), greatest)
        self.assertIn(((),), found)
        self.assertSame(first_sets(Table(EBB.trade)), ((0, 2), (1, 2)))
        parted = Spec(3, {"a": [2, None, None], "b": [None, 1, 0], "c": [None, None, 2]})
        self.assertSame(first_sets(Table(parted.trade)), ((0, 2), (1,)))
        greater = ending_spec(random.Random(12), 10, "ab", "0")
        table = Table(greater.trade)
        couples = first_couples(table)
        sets = [one for many in range(11) for one in itertools.combinations(range(10), many)
                if all(two in couples for two in itertools.combinations_with_replacement(one, 2))]
        self.assertSame(first_sets(table), tuple(sorted(
            one for one in sets if not any(set(one) < set(other) for other in sets))))

    def test_no_firsts(self):
        table = Table(CROSSED.trade)
        self.assertSame((lot_pairs(table, ()), lot_houses(table, [], 0), lot_houses(table, (), 3)), ((), ((),), ()))
        self.assertSame((lot_clashes(table, []), lot_paper(table, ())), ((), ("lot", (), (), ())))
        self.fails(Refused(0), pair_way, table, (), (0, 1))
        self.assertIsNone(check_lot(CROSSED.trade, [], ("lot", (), (), ())))

    def test_wrong_values_in_order(self):
        table = Table(EBB.trade)
        for value in NO_SEQUENCES:
            self.fails(NoStand(value), lot_pairs, table, value)
            self.fails(NoStand(value), lot_houses, table, value, None)
            self.fails(NoStand(value), pair_way, table, value, None)
            self.fails(NoStand(value), lot_clashes, table, value)
            self.fails(NoStand(value), is_rueless_lot, table, value)
            self.fails(NoStand(value), lot_paper, table, value)
            self.fails(NoStand(value), check_lot, EBB.trade, value, None)
        for value in no_stands(EBB):
            for call in (lot_pairs, lot_clashes, is_rueless_lot, lot_paper):
                self.fails(NoStand(value), call, table, [2, value, None])
            self.fails(NoStand(value), pair_way, table, (value, 9), None)
            self.fails(NoStand(value), check_lot, EBB.trade, [2, value], None)
            self.fails(BadHouse(1), pair_way, table, (0,), [0, value, 1])
        for value in without(ANY, lambda value: type(value) is int and 0 <= value <= 4) + [5, 6]:
            self.fails(BadHouse(-1), lot_houses, table, (0,), value)
        for value in NO_SEQUENCES:
            self.fails(BadHouse(-1), pair_way, table, (0,), value)
        self.fails(BadHouse(1), pair_way, table, (0,), (0,))
        self.fails(BadHouse(2), pair_way, table, (0,), (0, 0, 0))
        self.fails(Refused(0), pair_way, table, (0,), (0, 1))
        self.assertSame(pair_way(table, (0,), [2, 1]), ((0, 0), "a0", (0,)))


def takers(spec, kind):
    return [stand for stand in range(spec.stands) if spec.ways[kind][stand] is not None]


def told_sides(spec):
    return [(kind,) + two for kind in spec.kinds for two in itertools.combinations(takers(spec, kind), 2)]


def is_two(spec, value):
    return is_house(spec.trade, value) and len(value) == 2


def slow_check(spec, firsts, paper):
    """The number of the PaperFault that is due, None if there is none; what is no tuple, too."""
    if type(paper) is tuple and len(paper) == 4 and type(paper[0]) is str and paper[0] == "lot":
        return slow_check_lot(spec, firsts, *paper[1:])
    if type(paper) is tuple and len(paper) == 8 and type(paper[0]) is str and paper[0] == "lot rueful":
        return slow_check_rueful(spec, firsts, *paper[1:])
    return 0


def slow_check_lot(spec, firsts, pairs, sides, rows):
    if not all(type(one) is tuple for one in (pairs, sides, rows)) or not all(is_two(spec, house) for house in pairs):
        return 0
    needed = set(itertools.combinations_with_replacement(sorted(set(firsts)), 2))
    needed |= {one for house in pairs for letter in spec.letters for one in spec.moves(house, letter)}
    if len(set(pairs)) < len(pairs) or not needed <= set(pairs):
        return 0
    told = [side for side in told_sides(spec) if side[1:] in pairs]
    if not all(type(side) is tuple and len(side) == 4 for side in sides) or [side[:3] for side in sides] != told:
        return 0
    for kind, p, q, word in sides:
        if type(p) is bool or type(q) is bool or word not in ("first", "second", "both"):
            return 0
        first, second = choices(spec, kind, p, q)
        for pair, words in (((second, first), ("first", "both")), ((first, second), ("second", "both"))):
            if word in words and first != second and not any(is_pair(spec, one) and one == pair for one in rows):
                return 0
    for number, pair in enumerate(rows, 1):
        if not is_pair(spec, pair) or pair in rows[:number - 1]:
            return number
    for number, (x, y) in enumerate(rows, 1):
        if not all(any(x2 == y2 or (x2, y2) in rows for y2 in spec.moves(y, letter))
                   for letter in spec.letters for x2 in spec.moves(x, letter)):
            return number
    return None


def is_pair(spec, value):
    return type(value) is tuple and len(value) == 2 and all(is_two(spec, one) for one in value) and value[0] != value[1]


def slow_check_rueful(spec, firsts, start, row, serving, kind, p, q, rows):
    if type(kind) is not str or kind not in list(spec.kinds) or not all(type(one) is int for one in (p, q)):
        return 0
    if p not in takers(spec, kind) or q not in takers(spec, kind) or p >= q or type(rows) is not tuple:
        return 0
    if not is_two(spec, start) or not set(start) <= set(firsts) or type(serving) is not tuple:
        return 0
    if type(row) is not str or len(row) > 200 or not all(sign in spec.letters for sign in row):
        return 0
    if not all(type(one) is int for one in serving) or (serving, (p, q)) not in [
            (one, way[-1]) for one, way in spec.servings(start, row)]:
        return 0
    first, second = choices(spec, kind, p, q)
    for pair in ((second, first), (first, second)):
        if not any(type(one) is tuple and is_pair(spec, one[:2]) and one[:2] == pair for one in rows):
            return 0
    for number, one in enumerate(rows, 1):
        if type(one) is not tuple or len(one) != 4 or not is_pair(spec, one[:2]) or not is_house(spec.trade, one[3]):
            return number
        if type(one[2]) is not str or one[2] not in list(spec.letters):
            return number
    for number, (x, y, letter, x2) in enumerate(rows, 1):
        ahead = [one[:2] for one in rows[:number - 1]]
        if x2 not in spec.moves(x, letter) or not all((x2, y2) in ahead for y2 in spec.moves(y, letter)):
            return number
    return None


class LotPaperTest(Case):
    def test_papers(self):
        words = set()
        for spec, table, firsts in cases(465, 80):
            paper = self.agrees(lot_paper, table=table, firsts=firsts)
            words.add(paper[0])
            pairs = lot_pairs(table, firsts)
            found = lot_clashes(table, firsts)
            if found:
                kind, p, q = found[0]
                first, second = choices(spec, kind, p, q)
                numbers = [(table.houses.index(x), table.houses.index(y)) for x, y in ((second, first), (first, second))]
                rows = tuple((table.houses[x], table.houses[y], spec.letters[letter], table.houses[x2])
                             for x, y, letter, x2 in table.relation.strikes(numbers))
                self.assertSame(paper, ("lot rueful",) + pair_way(table, firsts, (p, q)) + (kind, p, q, rows))
            else:
                sides = tuple((kind, p, q, table.side(kind, p, q)) for kind, p, q in told_sides(spec) if (p, q) in pairs)
                wanted = []
                for kind, p, q, word in sides:
                    first, second = choices(spec, kind, p, q)
                    wanted += [(second, first)] if word in ("first", "both") else []
                    wanted += [(first, second)] if word in ("second", "both") else []
                numbers = [(table.houses.index(x), table.houses.index(y)) for x, y in wanted]
                rows = tuple((table.houses[x], table.houses[y]) for x, y in table.relation.needed(numbers))
                self.assertSame(paper, ("lot", pairs, sides, rows))
                if not clashes(table):
                    every = lot_paper(table, range_list(spec))
                    self.assertSame(every[2:], verdict_paper(table)[1:])
            self.assertIsNone(self.agrees(check_lot, trade=spec.trade, firsts=firsts, paper=paper))
        self.assertEqual(words, {"lot", "lot rueful"})

    def test_bent_papers(self):
        dice = random.Random(466)
        faults = {}
        for spec, table, firsts in cases(467, 80):
            paper = lot_paper(table, firsts)
            rows = [paper[:-1] + (bent,) for bent in bends(dice, paper[-1], 20)]
            for bent in list(bends(dice, paper, 40)) + rows:
                told = slow_check(spec, firsts, bent)
                faults[told] = faults.get(told, 0) + 1
                self.assertEqual(fault_of(check_lot, spec.trade, firsts, bent), told, (firsts, bent))
        self.assertTrue(min(faults[None], faults[0], faults[1], faults[2]) > 20, faults)

    def test_other_right_papers(self):
        dice = random.Random(468)
        for spec, table, firsts in cases(469, 60):
            paper = lot_paper(table, firsts)
            if paper[0] == "lot":
                every = [(table.houses[x], table.houses[y]) for x, y in table.relation.pairs() if x != y]
                pairs = list(paper[1])
                dice.shuffle(pairs)
                dice.shuffle(every)
                self.assertIsNone(check_lot(spec.trade, firsts, ("lot", tuple(pairs), paper[2], tuple(every))))
                self.assertTrue(is_closed(spec.trade, tuple(every)))
                # A greater collection of houses of two has more sides.
                more = lot_pairs(table, range_list(spec))
                sides = tuple((kind, p, q, table.side(kind, p, q)) for kind, p, q in told_sides(spec))
                told = None if not clashes(table) else 0
                self.assertEqual(fault_of(check_lot, spec.trade, firsts, ("lot", more, sides, tuple(every))), told)
                less = paper[1][1:]
                if paper[1]:
                    self.fails(PaperFault(0), check_lot, spec.trade, firsts, ("lot", less) + paper[2:])
            else:
                for row in spec.rows(4):
                    for start in itertools.combinations_with_replacement(range(spec.stands), 2):
                        for serving, way in spec.servings(start, row):
                            bent = ("lot rueful", start, row, serving) + paper[4:]
                            told = None if way[-1] == paper[5:7] and set(start) <= set(firsts) else 0
                            self.assertEqual(fault_of(check_lot, spec.trade, firsts, bent), told)
                self.assertIsNone(check_lot(spec.trade, firsts, paper[:7] + (paper[7] * 2,)))

    def test_any_values(self):
        for firsts in ((0,), (0, 1)):
            paper = lot_paper(Table(EBB.trade), firsts)
            for value in ANY + [list(paper), paper[1:], paper + ((),), ("lots",) + paper[1:]]:
                self.assertEqual(fault_of(check_lot, EBB.trade, firsts, value), 0)
                for at in range(len(paper)):
                    bent = paper[:at] + (value,) + paper[at + 1:]
                    self.assertEqual(fault_of(check_lot, EBB.trade, firsts, bent), slow_check(EBB, firsts, bent))


def range_list(spec):
    return list(range(spec.stands))


if __name__ == "__main__":
    unittest.main()
