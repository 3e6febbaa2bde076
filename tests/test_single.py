import itertools
import random
import unittest

from helpers import (ANY, CROSSED, NO_SEQUENCES, RING, ROOMS, SILENT, STILL, TIDE, Case, Spec, bends, is_shown_by,
                     no_letters, no_stands, random_house, random_row, rueless_specs, specs, without)
from rueless.errors import BadHouse, BadRow, CannotTake, NoLetter, Refused, TooGreat
from rueless.houses import all_houses, reached_houses
from rueless.single import (Single, foe_depth, foe_paper, foe_tree, right_choices, single_holds, tree_holds, twos_tell)
from rueless.strikes import is_closed
from rueless.twos import Table
from rueless.verdict import clashes, is_rueless

KEPT = Spec(4, {"a": [3, None, None, None], "b": [None, 3, None, None], "c": [3, 3, 2, None]})
TOLD = [CROSSED, KEPT, RING, ROOMS, SILENT, STILL, TIDE]


def cases(seed, many, stands=(1, 2, 3, 4), least=0):
    """Trades, rueful ones in most cases, with a house of at least so many places."""
    dice = random.Random(seed)
    for spec in specs(seed + 1, many, stands=stands) + rueless_specs(seed + 2, many // 5) + TOLD:
        house = random_house(dice, spec, 3)
        while len(house) < least:
            house = random_house(dice, spec, 3)
        yield spec, Table(spec.trade), house
    yield CROSSED, Table(CROSSED.trade), (0, 1)
    yield KEPT, Table(KEPT.trade), (0, 1, 2)
    yield KEPT, Table(KEPT.trade), (0, 1)


def followed(spec, bags):
    """The pairs of bags of which the second one follows the first one, by leaving out pairs one after another."""
    pairs = set(itertools.product(bags, repeat=2))
    while True:
        kept = {(x, y) for x, y in pairs if all(any((x2, y2) in pairs for y2 in spec.moves(y, letter))
                                                for letter in spec.letters for x2 in spec.moves(x, letter))}
        if kept == pairs:
            return pairs
        pairs = kept


def good_houses(spec, bags):
    """The good bags, by the words."""
    pairs = followed(spec, bags)
    good = set(bags)
    while True:
        kept = {house for house in good if all(
            not spec.moves(house, letter) or any(
                one in good and all((other, one) in pairs for other in spec.moves(house, letter))
                for one in spec.moves(house, letter)) for letter in spec.letters)}
        if kept == good:
            return good
        good = kept


def steady_houses(spec, bags):
    """The bags with a steward who serves all their rows: by rows alone, without any relation."""
    steady = set(bags)
    while True:
        kept = {house for house in steady if all(
            not spec.moves(house, letter) or any(
                one in steady and all(spec.parting(other, one) is None for other in spec.moves(house, letter))
                for one in spec.moves(house, letter)) for letter in spec.letters)}
        if kept == steady:
            return steady
        steady = kept


def slow_way(spec, pairs, good, house, letter):
    for stand, behind in spec.choices(house, letter):
        if behind in good and all((other, behind) in pairs for other in spec.moves(house, letter)):
            return stand, behind
    return None


class SingleTest(Case):
    def test_houses_and_good_ones(self):
        found = set()
        for spec, table, house in cases(360, 80):
            single = Single(table=table, house=list(house)[::-1])
            bags = reached_houses(spec.trade, house)
            good = good_houses(spec, bags)
            self.assertSame((single.house, single.houses, single.good), (house, bags, tuple(sorted(good))))
            self.assertIs(self.agrees(single.is_rueless), house in good)
            self.assertEqual(good, steady_houses(spec, bags))
            found.add((is_rueless(table), house in good))
            pairs = followed(spec, bags)
            for one, other in itertools.product(bags, repeat=2):
                self.assertIs(single.is_followed(list(one)[::-1], other=other), (one, other) in pairs)
        self.assertEqual(found, {(True, True), (False, True), (False, False)})

    def test_choices(self):
        found = set()
        for spec, table, house in cases(363, 60):
            single = Single(table, house)
            pairs = followed(spec, single.houses)
            for bag in single.houses:
                for kind in spec.kinds:
                    if not spec.choices(bag, kind):
                        self.fails(CannotTake(kind), single.choice, bag, kind)
                        continue
                    way = slow_way(spec, pairs, single.good, bag, kind)
                    found.add((way is None, bag in single.good))
                    told = None if way is None else way[0]
                    self.assertSame(self.agrees(single.choice, house=list(bag)[::-1], kind=kind), told)
        self.assertEqual(found, {(True, False), (False, False), (False, True)})

    def test_walks(self):
        dice = random.Random(366)
        rueful = 0
        for spec, table, house in cases(367, 80):
            single = Single(table, house)
            for _ in range(8):
                row = random_row(dice, spec, 8)
                told = self.agrees(single.walk, row=row)
                if not single.is_rueless():
                    rueful += 1
                    self.assertIsNone(told)
                    continue
                many = max(many for many in range(len(row) + 1) if spec.serves(house, row[:many]))
                now = house
                for letter in row[:many]:
                    stand = single.choice(now, letter) if letter in spec.kinds else None
                    now = dict(spec.choices(now, letter))[stand]
                self.assertSame(told, (many, now))
        self.assertGreater(rueful, 50)

    def test_too_great(self):
        for spec, table, house in cases(368, 20):
            many = len(reached_houses(spec.trade, house)) ** 2
            self.assertSame(Single(table, house, pairs=many).good, Single(table, house).good)
            if many > 1:
                self.fails(TooGreat(many - 1), Single, table, house, pairs=many - 1)
        greater = Spec(6, {"a": [1, 2, 3, 4, 5, 5]})
        table = Table(greater.trade)
        self.assertEqual(len(reached_houses(greater.trade, (0,) * 6)), 462)
        self.fails(TooGreat(5000), Single, table, (0,) * 6)
        self.fails(BadHouse(6), Single, table, (0,) * 7, pairs=1)

    def test_wrong_values_in_order(self):
        table = Table(CROSSED.trade)
        single, rueful = Single(table, (0, 2)), Single(table, (0, 1))
        self.assertSame((single.houses, rueful.good), (((0, 2), (2, 2)), ((0, 2), (1, 2), (2, 2))))
        for value in NO_SEQUENCES:
            self.fails(BadHouse(-1), Single, table, value, pairs=1)
            self.fails(BadHouse(-1), single.is_followed, value, None)
            self.fails(BadHouse(-1), single.is_followed, (2, 2), value)
            self.fails(BadHouse(-1), single.choice, value, None)
        for house in ((), (0,), (1, 2), [1, 0], (0, 0, 2), (2,) * 6):
            self.fails(Refused(0), single.is_followed, house, None)
            self.fails(Refused(1), single.is_followed, [2, 0], house)
            self.fails(Refused(0), single.choice, house, None)
        self.fails(BadHouse(1), single.is_followed, [0, True], None)
        self.fails(BadHouse(0), single.choice, [3], None)
        for value in no_letters("abc"):
            self.fails(NoLetter(value), single.choice, [2, 0], value)
        self.fails(NoLetter("0"), Single(Table(TIDE.trade), (0,)).choice, [0], "0")
        self.fails(CannotTake("b"), single.choice, [2, 0], "b")
        for one in (single, rueful):
            for value in without(ANY, lambda value: isinstance(value, str)):
                self.fails(BadRow(-1), one.walk, value)
            self.fails(BadRow(1), one.walk, "a0" + "x" * 300)
            self.fails(BadRow(200), one.walk, "a" * 201)
        self.assertRaises(TypeError, iter, single)
        self.assertRaises(TypeError, len, single)


def slow_paper(spec, single):
    pairs = followed(spec, single.houses)
    met, wanted = [single.house], []
    steps = []
    for house in met:
        ways = [slow_way(spec, pairs, single.good, house, letter) for letter in spec.letters]
        steps.append((house, tuple(ways)))
        for letter, way in zip(spec.letters, ways):
            if way is not None:
                met += [way[1]] if way[1] not in met else []
                wanted += [(one, way[1]) for one in spec.moves(house, letter)]
    needed = set()
    for x, y in wanted:
        if x != y and (x, y) not in needed:
            needed.add((x, y))
            wanted += [(x2, [y2 for y2 in spec.moves(y, letter) if (x2, y2) in pairs][0])
                       for letter in spec.letters for x2 in spec.moves(x, letter)]
    return ("single", single.house, tuple(sorted(needed)), tuple(sorted(steps)))


def slow_single(spec, house, paper):
    word, told, relation, steps = paper
    if word != "single" or told != house or type(steps) is not tuple or not is_closed(spec.trade, relation):
        return False
    bags = [bag for bag, _ in steps]
    if len(set(bags)) < len(bags) or house not in bags or not set(bags) <= set(all_houses(spec.trade, len(house))):
        return False
    for bag, ways in steps:
        if len(ways) != len(spec.letters) or type(ways) is not tuple:
            return False
        for letter, way in zip(spec.letters, ways):
            told = spec.choices(bag, letter)
            if not told:
                if way is not None:
                    return False
            elif way not in told or way[1] not in bags:
                return False
            elif not all(one == way[1] or (one, way[1]) in relation for _, one in told):
                return False
    return True


class SinglePaperTest(Case):
    def test_papers(self):
        for spec, table, house in cases(370, 60):
            single = Single(table, house)
            if not single.is_rueless():
                self.fails(Refused(0), single.paper)
                continue
            paper = self.agrees(single.paper)
            self.assertSame(paper, slow_paper(spec, single))
            self.assertIs(single_holds(trade=spec.trade, house=list(house)[::-1], value=paper), True)
            self.assertTrue(is_shown_by(slow_single, spec, house, paper))

    def test_bent_papers(self):
        dice = random.Random(373)
        held = []
        for spec, table, house in cases(374, 60):
            single = Single(table, house)
            if single.is_rueless():
                for bent in bends(dice, single.paper(), 30):
                    held.append(is_shown_by(slow_single, spec, house, bent))
                    self.assertIs(single_holds(spec.trade, house, bent), held[-1], bent)
        self.assertGreater(held.count(True), 80)
        self.assertGreater(held.count(False), 500)

    def test_other_right_papers(self):
        dice = random.Random(377)
        found = set()
        for spec, table, house in cases(378, 60):
            single = Single(table, house)
            if not single.is_rueless():
                continue
            word, _, relation, steps = single.paper()
            pairs = followed(spec, single.houses)
            more = [(house, way) for house in single.good
                    for way in [tuple(slow_way(spec, pairs, single.good, house, letter) for letter in spec.letters)]]
            every = [pair for pair in pairs if pair[0] != pair[1]]
            dice.shuffle(more)
            dice.shuffle(every)
            self.assertIs(single_holds(spec.trade, house, (word, house, tuple(every), tuple(more))), True)
            self.assertIs(single_holds(spec.trade, house, (word, house, relation + (((0,), (0, 0)),), steps)), False)
            for _ in range(10):
                at, letter = dice.randrange(len(more)), dice.choice(spec.letters or "x")
                if spec.letters and spec.choices(more[at][0], letter):
                    row = list(more[at][1])
                    row[spec.letters.index(letter)] = dice.choice(spec.choices(more[at][0], letter))
                    bent = (word, house, tuple(every), tuple(more[:at] + [(more[at][0], tuple(row))] + more[at + 1:]))
                    found.add(is_shown_by(slow_single, spec, house, bent))
                    self.assertIs(single_holds(spec.trade, house, bent), is_shown_by(slow_single, spec, house, bent))
        self.assertEqual(found, {True, False})

    def test_any_values(self):
        paper = Single(Table(KEPT.trade), (0, 1, 2)).paper()
        self.assertIs(single_holds(KEPT.trade, [2, 0, 1], paper), True)
        for value in ANY + [(0, 1), (0, 1, 2, 2), (0, 1, 9)]:
            self.assertIs(single_holds(KEPT.trade, value, paper), False)
            self.assertIs(single_holds(KEPT.trade, (0, 1, 2), value), False)
            for at in range(4):
                self.assertIs(single_holds(KEPT.trade, (0, 1, 2), paper[:at] + (value,) + paper[at + 1:]), False)
        self.assertIs(single_holds(STILL.trade, (), ("single", (), (), (((), ()),))), True)
        self.assertIs(single_holds(STILL.trade, (), ("single", (), (), ())), False)
        # A bag with another number of places.
        self.assertIs(single_holds(STILL.trade, (0,), ("single", (0,), (), (((0,), ()), ((1,), ())))), True)
        self.assertIs(single_holds(STILL.trade, (0,), ("single", (0,), (), (((0,), ()), ((0, 1), ())))), False)


class ChoicesTest(Case):
    def test_right_choices(self):
        found = set()
        for spec, table, house in cases(380, 60):
            for kind in spec.kinds:
                ways = spec.choices(house, kind)
                if not ways:
                    self.fails(CannotTake(kind), right_choices, table, house, kind)
                    continue
                told = tuple(stand for stand, behind in ways
                             if all(spec.parting(one, behind) is None for _, one in ways))
                found.add((len(told) > 0, len(told) == len(ways)))
                self.assertSame(self.agrees(right_choices, table=table, house=list(house)[::-1], kind=kind), told)
        self.assertEqual(found, {(True, True), (True, False), (False, False)})

    def test_most(self):
        great = 0
        for spec, table, house in cases(383, 40, stands=(2, 3)):
            for kind in spec.kinds:
                ways = spec.choices(house, kind)
                if ways:
                    many = max(pairs_met(spec, one, other) for _, one in ways for _, other in ways)
                    told = right_choices(table, house, kind)
                    self.assertSame(right_choices(table, house, kind, most=many), told)
                    for most in (1, 2, 3):
                        try:
                            self.assertSame(right_choices(table, house, kind, most=most), told)
                        except TooGreat as error:
                            great += 1
                            self.assertEqual(error.most, most)
                            self.assertLess(most, many)
        self.assertGreater(great, 5)

    def test_twos_tell(self):
        found = set()
        for spec, table, house in cases(386, 80):
            told = not any(p in bag and q in bag for bag in reached_houses(spec.trade, house) for _, p, q in clashes(table))
            self.assertIs(self.agrees(twos_tell, table=table, house=list(house)[::-1]), told)
            found.add((told, Single(table, house).is_rueless()))
        self.assertEqual(found, {(True, True), (False, True), (False, False)})

    def test_wrong_values_in_order(self):
        table = Table(CROSSED.trade)
        for value in NO_SEQUENCES:
            self.fails(BadHouse(-1), right_choices, table, value, None)
            self.fails(BadHouse(-1), twos_tell, table, value)
        for value in no_letters("abc"):
            self.fails(NoLetter(value), right_choices, table, [2], value)
        self.fails(CannotTake("a"), right_choices, table, [2, 1], "a")
        self.fails(CannotTake("a"), right_choices, table, [], "a")
        self.fails(BadHouse(1), twos_tell, table, [0, 3])


def pairs_met(spec, house, other):
    found = {(house, (other,)): True}
    queue = [(house, (other,))]
    for bag, front in queue:
        for letter in spec.letters:
            behind = tuple(sorted({one for two in front for one in spec.moves(two, letter)}))
            for one in spec.moves(bag, letter):
                if (one, behind) not in found:
                    found[(one, behind)] = True
                    queue.append((one, behind))
    return len(found)


def slow_trees(spec, house):
    """By bag (depth, tree) of the trees that are told, depth by depth."""
    trees = {}
    depth = 0
    while True:
        depth += 1
        found = {}
        for bag in reached_houses(spec.trade, house):
            for letter in spec.letters:
                if bag in trees or bag in found:
                    continue
                branches = []
                for stand, behind in spec.choices(bag, letter):
                    rows = [(other, spec.parting(one, behind)) for other, one in spec.choices(bag, letter)]
                    rows = [row for row in rows if row[1] is not None]
                    if stand is not None and rows:
                        branches.append((stand, "row") + rows[0])
                    elif behind in trees:
                        branches.append((stand, "on", trees[behind][1]))
                    else:
                        branches = None
                        break
                if branches:
                    found[bag] = (depth, (letter, tuple(branches)))
        if not found:
            return trees
        trees.update(found)


def slow_tree_holds(spec, house, tree):
    letter, branches = tree
    told = dict(spec.choices(house, letter))
    if not branches or [branch[0] for branch in branches] != list(told) or type(branches) is not tuple:
        return False
    for branch in branches:
        if type(branch) is not tuple or type(tree) is not tuple:
            return False
        if branch[1] == "on":
            if len(branch) != 3 or not slow_tree_holds(spec, told[branch[0]], branch[2]):
                return False
        else:
            stand, word, other, row = branch
            if word != "row" or other is None or len(row) > 200 or not all(sign in spec.letters for sign in row):
                return False
            if not spec.serves(told[other], row) or spec.serves(told[stand], row):
                return False
    return True


def slow_foe(spec, house, paper):
    return paper[:2] == ("foe", house) and len(paper) == 3 and slow_tree_holds(spec, house, paper[2])


class FoeTest(Case):
    def test_trees(self):
        depths = set()
        for spec, table, house in cases(390, 150, stands=(3,), least=2):
            told = slow_trees(spec, house)
            named = {"table": table, "house": list(house)[::-1]}
            depth = self.agrees(foe_depth, **named)
            depths.add(depth)
            self.assertSame((depth, self.agrees(foe_tree, **named)), told.get(house, (None, None)))
            self.assertIs(depth is None, Single(table, house).is_rueless())
            if depth is None:
                self.fails(Refused(0), foe_paper, table, house)
                continue
            paper = self.agrees(foe_paper, **named)
            self.assertSame(paper, ("foe", house, told[house][1]))
            self.assertIs(tree_holds(trade=spec.trade, house=list(house)[::-1], value=paper), True)
            self.assertTrue(is_shown_by(slow_foe, spec, house, paper))
        self.assertTrue({None, 1, 2, 3} <= depths)

    def test_told_trees(self):
        # A beat leads to a clash, later than a kind does; and two letters allow the same depth.
        late = Spec(4, {"a": [3, None, None, None], "b": [None, 3, None, None], "c": [3, 3, None, None]},
                    {"0": [1, 0, 2, 3], "1": [0, 1, 0, 3]})
        table = Table(late.trade)
        clash = ("c", ((0, "row", 1, "a"), (1, "row", 0, "b")))
        self.assertSame(foe_tree(table, (0, 1)), clash)
        self.assertSame((foe_depth(table, (1, 2)), foe_tree(table, (1, 2))), (2, ("1", ((None, "on", clash),))))
        both = Spec(4, {"a": [3, None, None, None], "b": [None, 3, None, None], "c": [3, 3, None, None],
                        "d": [3, 3, None, None]})
        self.assertSame(foe_tree(Table(both.trade), (0, 1)), clash)

    def test_most(self):
        great = 0
        for spec, table, house in cases(393, 60, stands=(3,), least=2):
            bags = reached_houses(spec.trade, house)
            many = max([pairs_met(spec, one, other) for bag in bags for kind in spec.kinds
                        for one in spec.moves(bag, kind) for other in spec.moves(bag, kind)], default=1)
            self.assertSame(foe_tree(table, house, most=many), foe_tree(table, house))
            self.assertSame(foe_depth(table, house, most=many), foe_depth(table, house))
            for most in (1, 2, 3):
                try:
                    self.assertSame(foe_tree(table, house, most=most), foe_tree(table, house))
                except TooGreat as error:
                    great += 1
                    self.assertEqual(error.most, most)
                    self.assertLess(most, many)
                    self.fails(TooGreat(most), foe_depth, table, house, most=most)
                    self.fails(TooGreat(most), foe_paper, table, house, most=most)
        self.assertGreater(great, 5)

    def test_bent_papers(self):
        dice = random.Random(396)
        held = []
        for spec, table, house in cases(397, 100, stands=(3,), least=2):
            if foe_tree(table, house) is not None:
                for bent in bends(dice, foe_paper(table, house), 40):
                    held.append(is_shown_by(slow_foe, spec, house, bent))
                    self.assertIs(tree_holds(spec.trade, house, bent), held[-1], bent)
        self.assertGreater(held.count(True), 80)
        self.assertGreater(held.count(False), 500)

    def test_other_trees(self):
        # A row that a longer one begins with, another stand that keeps it, and a tree that goes on needlessly.
        spec = Spec(5, {"a": [4, None, None, 4, None], "b": [None, 4, None, 4, None], "c": [4, 4, None, 2, None]},
                    {"0": [0, 1, 2, 3, 4]})
        clash = ("c", ((0, "row", 1, "0a0"), (1, "row", 0, "0b")))
        self.assertIs(tree_holds(spec.trade, [1, 0], ("foe", (0, 1), clash)), True)
        self.assertIs(tree_holds(spec.trade, (0, 1), ("foe", (0, 1), ("0", ((None, "on", clash),)))), True)
        for bent in (("0", ((0, "on", clash),)), ("0", ((None, "on", clash, clash),)), ("0", ((None, "on"),)),
                     ("0", ((None, "row", 0, "a"),)), ("0", ()), ("d", ()), ("c", ()),
                     ("c", clash[1][:1]), ("c", clash[1][::-1]), ("c", clash[1] + clash[1][1:]),
                     ("c", ((0, "row", 0, "a"), (1, "row", 0, "b"))), ("c", ((0, "row", 2, "a"), (1, "row", 0, "b"))),
                     ("c", ((0, "row", True, "a"), (1, "row", 0, "b"))), ("c", list(clash[1])),
                     ("c", ((0, "row", 1, "a" + "0" * 200), (1, "row", 0, "b"))), ("x", clash[1])):
            self.assertIs(tree_holds(spec.trade, (0, 1), ("foe", (0, 1), bent)), False, bent)
        for branch in ((), (0,), (0, "on"), (0, "row"), (0, "row", 1), (0, "row", 1, "a", "a"), (0, "on", clash, clash),
                       (0, "row", None, "a"), (0, "down", clash)):
            self.assertIs(tree_holds(spec.trade, (0, 1), ("foe", (0, 1), ("c", (branch, clash[1][1])))), False)
        self.assertIs(tree_holds(spec.trade, (2, 4), ("foe", (2, 4), ("a", ()))), False)
        self.assertIs(tree_holds(spec.trade, (0, 1), ("foe", (0, 1), ("c", ((0, "row", 1, "a" + "0" * 199),
                                                                             clash[1][1])))), True)

    def test_any_values(self):
        paper = ("foe", (0, 1), ("c", ((0, "row", 1, "a"), (1, "row", 0, "b"))))
        self.assertIs(tree_holds(CROSSED.trade, [1, 0], paper), True)
        for value in ANY + [(0, 2), (0, 1, 2), (0, 9), [0, 1, 1]]:
            self.assertIs(tree_holds(CROSSED.trade, value, paper), value in ((0, 1), [1, 0]))
            self.assertIs(tree_holds(CROSSED.trade, (0, 1), value), False)
            for at in (0, 2):
                self.assertIs(tree_holds(CROSSED.trade, (0, 1), paper[:at] + (value,) + paper[at + 1:]), False)
        self.assertIs(tree_holds(CROSSED.trade, (0, 1), paper[:1] + ([0, 1],) + paper[2:]), False)
        self.assertIs(tree_holds(CROSSED.trade, (0, 1), paper[:1] + ((1, 0),) + paper[2:]), False)
        self.assertIs(tree_holds(CROSSED.trade, (0, 1), paper[:1] + ((False, True),) + paper[2:]), False)
        for value in NO_SEQUENCES:
            for call in (foe_tree, foe_depth, foe_paper):
                self.fails(BadHouse(-1), call, Table(CROSSED.trade), value)
        for value in no_stands(CROSSED):
            self.fails(BadHouse(0), foe_tree, Table(CROSSED.trade), [value])


if __name__ == "__main__":
    unittest.main()
