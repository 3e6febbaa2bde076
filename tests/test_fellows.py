import itertools
import random
import unittest

from helpers import (ANY, CROSSED, RING, ROOMS, SILENT, STILL, TIDE, Case, Spec, bends, choices, ending_spec, fault_of,
                     is_plain, no_stands, specs, without)
from rueless.errors import BadTrade, NoStand, Refused
from rueless.fellows import (are_fellows, barred_pairs, check_parts, fellow_pairs, fewest_parts, greatest_parts,
                             is_safe_part, join_fault, part_gaps, parts_paper)
from rueless.houses import is_house
from rueless.single import Single
from rueless.strikes import is_closed
from rueless.trades import all_parts, cut_kinds, cut_part, is_part
from rueless.twos import Table
from rueless.verdict import is_rueless

# Stands 0 and 1 are no fellows, 2 leads on to both of them: no safe part holds it.
FORK = Spec(4, {"a": [3, None, 0, None], "b": [None, 3, 1, None], "c": [3, 3, None, None]})
# No letter leaves a part of this trade.
APART = Spec(4, {"a": [0, None, None, 3], "b": [None, 1, 2, None]})
FOUR = Spec(5, {"a": [4, None, None, None, None], "b": [None, 4, None, None, None], "c": [4, 4, 4, None, None],
                "d": [None, None, 4, 4, None]})
# Two of its three greatest safe parts hold all stands.
TWO_OF_THREE = Spec(4, {"a": [3, 1, None, None], "b": [None, None, 1, 3], "c": [0, None, 1, None]})
TOLD = [CROSSED, RING, ROOMS, SILENT, STILL, TIDE, FORK, APART, FOUR, TWO_OF_THREE]


def barred(spec):
    """By (p, q) the first kind of which the side is "none"."""
    table = Table(spec.trade)
    found = {}
    for kind in spec.kinds:
        for p, q, side in table.sides(kind):
            if side == "none":
                found.setdefault((p, q), kind)
    return found


def slow_greatest(spec):
    bad = barred(spec)
    safe = [part for part in all_parts(spec.trade) if not any(p in part and q in part for p, q in bad)]
    return tuple(part for part in safe if not any(set(part) < set(other) for other in safe))


def gap_of(spec, parts):
    return next((stand for stand in range(spec.stands) if not any(stand in part for part in parts)), None)


def cases(seed, many):
    dice = random.Random(seed)
    ending = [ending_spec(dice, dice.choice([6, 7, 8]), "abc", dice.choice(["", "0"]), 0.5) for _ in range(4)]
    return specs(seed + 1, many, stands=(2, 3, 4), kinds=("", "a", "ab", "abc"), empty=0.5) + TOLD + ending


class FellowsTest(Case):
    def test_pairs(self):
        for spec in cases(920, 40):
            table = Table(spec.trade)
            bad = barred(spec)
            pairs = list(itertools.combinations(range(spec.stands), 2))
            self.assertSame(self.agrees(fellow_pairs, table=table), tuple(one for one in pairs if one not in bad))
            self.assertSame(self.agrees(barred_pairs, table=table),
                            tuple(one + (bad[one],) for one in pairs if one in bad))
            for p in range(spec.stands):
                for q in range(spec.stands):
                    self.assertIs(self.agrees(are_fellows, table=table, p=p, q=q), (min(p, q), max(p, q)) not in bad)

    def test_with_fewer_kinds_fellows_stay_fellows(self):
        many = 0
        for spec in cases(921, 30):
            less = fellow_pairs(Table(cut_kinds(spec.trade, spec.kinds[:-1])))
            self.assertTrue(set(fellow_pairs(Table(spec.trade))) <= set(less))
            many += set(fellow_pairs(Table(spec.trade))) < set(less)
        self.assertGreater(many, 5)

    def test_parts(self):
        found = set()
        for spec in cases(922, 40):
            table = Table(spec.trade)
            told = slow_greatest(spec)
            self.assertSame(self.agrees(greatest_parts, table=table), told)
            found.add(len(told))
            for part in all_parts(spec.trade):
                is_safe = self.agrees(is_safe_part, table=table, part=part)
                self.assertIs(is_safe, part == () or is_rueless(Table(cut_part(spec.trade, part))))
        self.assertTrue({1, 2, 3} <= found)
        self.assertSame(greatest_parts(Table(FORK.trade)), ((0, 3), (1, 3)))
        alone = Spec(2, {"a": [1, 0], "b": [None, 1]}, {"0": [1, 0]})
        self.assertIn(((),), [greatest_parts(Table(one.trade)) for one in specs(923, 200, stands=(2,), kinds=("a", "ab"))]
                      + [greatest_parts(Table(alone.trade))])

    def test_all_houses_of_a_safe_part_are_rueless(self):
        for spec in specs(924, 15, stands=(2, 3), kinds=("a", "ab"), empty=0.4) + [CROSSED]:
            table = Table(spec.trade)
            for part in all_parts(spec.trade):
                houses = [house for places in range(3) for house in itertools.combinations_with_replacement(part, places)]
                rueless = all(Single(table, house, pairs=20000).is_rueless() for house in houses)
                self.assertIs(is_safe_part(table, part), rueless)

    def test_joined_parts(self):
        found = set()
        for spec in cases(925, 30):
            table = Table(spec.trade)
            bad = barred(spec)
            for part in all_parts(spec.trade)[:12]:
                for other in all_parts(spec.trade)[-12:]:
                    told = [(p, q, bad[min(p, q), max(p, q)]) for p in part for q in other if (min(p, q), max(p, q)) in bad]
                    fault = self.agrees(join_fault, table=table, part=part, other=other)
                    self.assertSame(fault, told[0] if told else None)
                    if is_safe_part(table, part) and is_safe_part(table, other):
                        joined = tuple(sorted(set(part) | set(other)))
                        self.assertIs(is_safe_part(table, joined), fault is None)
                        found.add(fault is None)
        self.assertEqual(found, {True, False})

    def test_fewest_parts_and_gaps(self):
        found = set()
        for spec in cases(926, 40):
            table = Table(spec.trade)
            parts = slow_greatest(spec)
            left = tuple(stand for stand in range(spec.stands) if not any(stand in part for part in parts))
            told = self.agrees(fewest_parts, table=table)
            chosen = [numbers for many in range(len(parts) + 1) for numbers in itertools.combinations(range(len(parts)), many)
                      if gap_of(spec, [parts[number] for number in numbers]) is None]
            if left:
                self.assertSame(told, (False, left))
            else:
                self.assertSame(told, (True, tuple(parts[number] for number in chosen[0])))
            found.add(left == () and len(chosen[0]))
            for many in range(5):
                gaps = [(numbers, gap_of(spec, [parts[number] for number in numbers]))
                        for numbers in itertools.combinations(range(len(parts)), min(many, len(parts)))]
                wanted = None if any(gap is None for _, gap in gaps) else tuple(gaps)
                self.assertSame(self.agrees(part_gaps, table=table, many=many), wanted)
        self.assertTrue({False, 1, 2} <= found, found)
        self.assertSame(fewest_parts(Table(FORK.trade)), (False, (2,)))
        self.assertSame(greatest_parts(Table(TWO_OF_THREE.trade)), ((0, 3), (1, 2), (1, 3)))
        self.assertSame(fewest_parts(Table(TWO_OF_THREE.trade)), (True, ((0, 3), (1, 2))))
        self.assertSame(part_gaps(Table(FORK.trade), 9), (((0, 1), 2),))
        self.assertSame(part_gaps(Table(FORK.trade), 10 ** 20), (((0, 1), 2),))

    def test_wrong_values_in_order(self):
        table = Table(FORK.trade)
        for value in no_stands(FORK):
            self.fails(NoStand(value), are_fellows, table, value, None)
            self.fails(NoStand(value), are_fellows, table, 1, value)
        for value in without(ANY, lambda one: one == () and type(one) is tuple) + [(0,), (3, 0), [0, 3], (0, 3, 3), (0, True)]:
            self.fails(BadTrade(0), is_safe_part, table, value)
            self.fails(BadTrade(0), join_fault, table, value, None)
            self.fails(BadTrade(1), join_fault, table, (3,), value)
        for value in without(ANY, lambda one: type(one) is int and one >= 0):
            self.fails(Refused(value), part_gaps, table, value)


def slow_fault(spec, value):
    """The number of the first fault of a paper, None if there is none, by the words; it may fail if its form is wrong."""
    if type(value) is not tuple or not value or not is_plain(value[0]):
        return 0
    if (value[0], len(value)) not in (("together", 6), ("no parts", 5)):
        return 0
    sides, pairs, strikes, told = value[1:5]
    kinds = [(kind, p, q) for kind in spec.kinds for p, q in itertools.combinations(range(spec.stands), 2)
             if spec.ways[kind][p] is not None and spec.ways[kind][q] is not None]
    if type(sides) is not tuple or not is_plain(sides) or not all(type(side) is tuple for side in sides):
        return 0
    if [side[:3] for side in sides] != kinds:
        return 0
    if not all(len(side) == 4 and side[3] in ("first", "second", "both", "none") for side in sides):
        return 0
    if not all(type(one) is tuple for one in (pairs, strikes, told)):
        return 0
    bad = {side[1:3] for side in sides if side[3] == "none"}
    plain = [pair for pair in pairs if is_plain(pair)]
    for kind, p, q, word in sides:
        first, second = choices(spec, kind, p, q)
        if first != second and word in ("first", "both") and (second, first) not in plain:
            return 0
        if first != second and word in ("second", "both") and (first, second) not in plain:
            return 0
        if word == "none" and not all(any(type(row) is tuple and row[:2] == two and is_plain(row[:2]) for row in strikes)
                                      for two in ((second, first), (first, second))):
            return 0
    safe = [part for part in all_parts(spec.trade) if not any(p in part and q in part for p, q in bad)]
    greatest = [part for part in safe if not any(set(part) < set(other) for other in safe)]
    held = {stand for part in safe for stand in part}
    if value[0] == "together":
        if not all(is_part(spec.trade, part) and part in safe for part in told) or gap_of(spec, told) is not None:
            return 0
        if type(value[5]) is not tuple:
            return 0
    elif not told or not all(type(one) is int and 0 <= one < spec.stands and one not in held for one in told):
        return 0
    elif list(told) != sorted(set(told)):
        return 0
    return slow_list_fault(spec, value, greatest)


def slow_list_fault(spec, value, greatest):
    pairs, strikes, told = value[2:5]
    for number, pair in enumerate(pairs, 1):
        if type(pair) is not tuple or len(pair) != 2 or not all(is_house(spec.trade, one) and len(one) == 2 for one in pair):
            return number
        if pair[0] == pair[1] or pair in pairs[:number - 1]:
            return number
    for number, (x, y) in enumerate(pairs, 1):
        for letter in spec.letters:
            if not all(any(x2 == y2 or (x2, y2) in pairs for y2 in spec.moves(y, letter)) for x2 in spec.moves(x, letter)):
                return number
    for number, row in enumerate(strikes, len(pairs) + 1):
        if type(row) is not tuple or len(row) != 4 or not is_plain(row) or not is_house(spec.trade, row[3]):
            return number
        if not all(is_house(spec.trade, one) and len(one) == 2 for one in row[:2]) or row[0] == row[1]:
            return number
        if type(row[2]) is not str or row[2] not in list(spec.letters):
            return number
    for at, (x, y, letter, x2) in enumerate(strikes):
        if x2 not in spec.moves(x, letter):
            return len(pairs) + at + 1
        if not all(any(row[:2] == (x2, y2) for row in strikes[:at]) for y2 in spec.moves(y, letter)):
            return len(pairs) + at + 1
    if value[0] == "together":
        chosen = itertools.combinations(range(len(greatest)), min(len(told) - 1, len(greatest)))
        for number, (numbers, gap) in enumerate(itertools.zip_longest(chosen, value[5]), len(pairs) + len(strikes) + 1):
            if numbers is None or not is_plain(gap) or type(gap) is not tuple or len(gap) != 2 or gap[0] != numbers:
                return number
            held = {stand for one in numbers for stand in greatest[one]}
            if type(gap[1]) is not int or not 0 <= gap[1] < spec.stands or gap[1] in held:
                return number
    return None


class PaperTest(Case):
    def test_told_papers(self):
        words = set()
        for spec in cases(927, 40):
            table = Table(spec.trade)
            paper = self.agrees(parts_paper, table=table)
            words.add(paper[0])
            self.assertSame(paper[1], tuple((kind,) + side for kind in spec.kinds for side in table.sides(kind)))
            self.assertTrue(is_closed(spec.trade, paper[2]))
            self.assertSame(paper[2], tuple(sorted(paper[2])))
            is_found, told = fewest_parts(table)
            self.assertSame(paper[4:], (told, part_gaps(table, len(told) - 1)) if is_found else (told,))
            self.assertIsNone(check_parts(spec.trade, paper))
            self.assertIsNone(slow_fault(spec, paper))
            for x, y, letter, x2 in paper[3]:
                self.assertSame(table.strike(x, y), (letter, x2))
                self.assertIs(table.is_followed(x, y), False)
            ranks = [(table.rank(*row[:2]), row[:2]) for row in paper[3]]
            self.assertEqual(ranks, sorted(set(ranks)))
        self.assertEqual(words, {"together", "no parts"})

    def test_other_papers(self):
        table = Table(CROSSED.trade)
        _, sides, pairs, strikes, parts, gaps = parts_paper(table)
        self.assertSame((parts, gaps), (((0, 2), (1, 2)), (((0,), 1), ((1,), 0))))
        for other in (parts[::-1], ((1, 2), (0,) + (2,))):
            self.assertIsNone(check_parts(CROSSED.trade, ("together", sides, pairs, strikes, other, gaps)))
        more = strikes + ((strikes[0]),)
        self.assertIsNone(check_parts(CROSSED.trade, ("together", sides, pairs, more, parts, gaps)))
        # A safe part that is no greatest one will do; with one more there would be one more gap to tell.
        part = ("together", sides, pairs, strikes, ((0, 2), (1, 2), (2,)), gaps)
        self.assertEqual(fault_of(check_parts, CROSSED.trade, part), 3)
        self.assertEqual(fault_of(check_parts, CROSSED.trade, ("together", sides, pairs, strikes, ((0, 2), (1,)), gaps)), 0)
        self.assertEqual(fault_of(check_parts, CROSSED.trade, ("together", sides, pairs, strikes, ((0, 2),), gaps)), 0)
        # All stands at once are no safe part.
        for gaps_told in (gaps, (((), 0),), ()):
            one = ("together", sides, pairs, strikes, ((0, 1, 2),), gaps_told)
            self.assertEqual(fault_of(check_parts, CROSSED.trade, one), 0)
        table = Table(APART.trade)
        paper = parts_paper(table)
        self.assertSame(paper[4:], (((0, 1, 2, 3),), (((), 0),)))
        for stand in range(4):
            self.assertIsNone(check_parts(APART.trade, paper[:5] + ((((), stand),),)))
        self.assertEqual(fault_of(check_parts, APART.trade, paper[:5] + ((((), 4),),)), 1 + len(paper[2]))
        for stands in ((2,), (0, 2), (), (2, 2), (True, 2), [2]):
            paper = parts_paper(Table(FORK.trade))[:4] + (stands,)
            wanted = None if stands == (2,) else 0
            self.assertEqual(fault_of(check_parts, FORK.trade, paper), wanted)

    def test_more_stands_than_one(self):
        spec = Spec(5, {"a": [4, None, 0, 0, None], "b": [None, 4, 1, 1, None], "c": [4, 4, None, None, None]})
        paper = parts_paper(Table(spec.trade))
        self.assertSame((paper[0], paper[4]), ("no parts", (2, 3)))
        for stands, fault in [((2,), None), ((3,), None), ((2, 3), None), ((3, 2), 0), ((2, 4), 0)]:
            self.assertEqual(fault_of(check_parts, spec.trade, paper[:4] + (stands,)), fault)

    def test_bent_papers(self):
        dice = random.Random(928)
        found = set()
        for spec in cases(929, 20):
            paper = parts_paper(Table(spec.trade))
            for bent in bends(dice, paper, 80):
                fault = fault_of(check_parts, spec.trade, bent)
                self.assertEqual(fault, slow_fault(spec, bent), (spec.ways, bent))
                place = None if fault in (None, 0) else (fault > len(paper[2])) + (fault > len(paper[2]) + len(paper[3]))
                found.add((paper[0], fault == 0, place))
        self.assertEqual(len(found), 9, found)

    def test_values_of_other_kinds(self):
        paper = parts_paper(Table(CROSSED.trade))
        for value in ANY + [list(paper), paper[1:], paper[:5], paper + ((),), ("no parts",) + paper[1:]]:
            self.assertEqual(fault_of(check_parts, CROSSED.trade, value), 0)
        for at in range(1, 6):
            for value in ANY:
                bent = paper[:at] + (value,) + paper[at + 1:]
                self.assertEqual(fault_of(check_parts, CROSSED.trade, bent), slow_fault(CROSSED, bent), bent)


if __name__ == "__main__":
    unittest.main()
