import itertools
import random
import unittest

from helpers import (ANY, CROSSED, NO_SEQUENCES, RING, ROOMS, SILENT, STILL, TIDE, Case, Spec, bends, choices, fault_of,
                     is_shown_by, random_house, same, specs)
from rueless.errors import BadHouse, TooGreat
from rueless.heedless import (first_careless, heedless_holds, heedless_kinds, heedless_paper, is_heedless,
                              is_heedless_house)
from rueless.houses import reached_houses
from rueless.strikes import check_verdict, verdict_paper
from rueless.twos import Table

# For a all choices are alike, for b they are not.
HALF = Spec(3, {"a": [1, 0, None], "b": [2, 2, 0], "c": [2, None, None]})
ALIKE = Spec(3, {"a": [1, 0, None], "b": [2, 2, None]}, {"0": [1, 0, 2]})
TOLD = [CROSSED, RING, ROOMS, SILENT, STILL, TIDE, HALF, ALIKE]


def cases(seed, many):
    dice = random.Random(seed)
    found = specs(seed + 1, many, stands=(1, 2, 3))
    for _ in range(many // 2):
        turn = dice.sample(range(3), 3)
        kinds = {kind: [dice.choice([None, dice.randrange(3)])] * 3 for kind in dice.choice(["a", "ab"])}
        found.append(Spec(3, kinds, {"0": turn}))
    return found + TOLD


def takers(spec, kind):
    return [stand for stand in range(spec.stands) if spec.ways[kind][stand] is not None]


def slow_careless(spec, kinds):
    for kind in kinds:
        for chosen in takers(spec, kind):
            for other in takers(spec, kind):
                row = spec.parting(*choices(spec, kind, other, chosen))
                if row is not None:
                    return (kind, chosen, other, row)
    return None


class HeedlessTest(Case):
    def test_kinds_and_trades(self):
        found = set()
        for spec in cases(410, 80):
            table = Table(spec.trade)
            told = "".join(kind for kind in spec.kinds if slow_careless(spec, kind) is None)
            careless = slow_careless(spec, spec.kinds)
            found.add((told == "", told == spec.kinds))
            self.assertSame(self.agrees(heedless_kinds, table=table), told)
            self.assertSame(self.agrees(first_careless, table=table), careless)
            self.assertIs(self.agrees(is_heedless, table=table), told == spec.kinds)
            self.assertIs(is_heedless(table), all(side == "both" for kind in spec.kinds for _, _, side in table.sides(kind)))
        self.assertEqual(len(found), 4)
        self.assertSame(heedless_kinds(Table(HALF.trade)), "c")
        self.assertSame((heedless_kinds(Table(CROSSED.trade)), heedless_kinds(Table(STILL.trade))), ("ab", ""))

    def test_houses(self):
        dice = random.Random(411)
        found = set()
        for spec in cases(412, 60):
            table = Table(spec.trade)
            for _ in range(3):
                house = random_house(dice, spec, 3)
                bags = reached_houses(spec.trade, house)
                told = all(spec.parting(one, other) is None for bag in bags for kind in spec.kinds
                           for one, other in itertools.permutations(spec.moves(bag, kind), 2))
                found.add((told, is_heedless(table)))
                self.assertIs(self.agrees(is_heedless_house, table=table, house=list(house)[::-1]), told)
                many = len(bags) ** 2
                self.assertIs(is_heedless_house(table, house, pairs=many), told)
                if many > 1:
                    self.fails(TooGreat(many - 1), is_heedless_house, table, house, pairs=many - 1)
        self.assertEqual(found, {(True, True), (True, False), (False, False)})
        for value in NO_SEQUENCES:
            self.fails(BadHouse(-1), is_heedless_house, Table(HALF.trade), value, pairs=1)
        greater = Spec(6, {"a": [1, 2, 3, 4, 5, 5]})
        self.fails(TooGreat(5000), is_heedless_house, Table(greater.trade), (0,) * 6)

    def test_most(self):
        great = 0
        for spec in cases(413, 60):
            table = Table(spec.trade)
            for call in (heedless_kinds, first_careless, heedless_paper):
                self.assertSame(call(table, most=20000), call(table))
                try:
                    self.assertSame(call(table, most=1), call(table))
                except TooGreat as error:
                    great += 1
                    self.assertEqual(error.most, 1)
            if spec in (SILENT, STILL, ALIKE):
                self.assertSame(heedless_kinds(table, most=1), spec.kinds)
        self.assertGreater(great, 5)


def slow_heedless(spec, paper):
    if paper[0] == "heedless":
        word, sides, pairs = paper
        return fault_of(check_verdict, spec.trade, ("rueless", sides, pairs)) is None and all(
            side[3] == "both" for side in sides)
    word, kind, chosen, other, row = paper
    if word != "careless" or kind not in list(spec.kinds) or min(chosen, other) < 0 or len(row) > 200:
        return False
    one, two = choices(spec, kind, other, chosen)
    return all(sign in spec.letters for sign in row) and spec.serves(one, row) and not spec.serves(two, row)


class HeedlessPaperTest(Case):
    def test_papers(self):
        words = set()
        for spec in cases(414, 60):
            table = Table(spec.trade)
            paper = self.agrees(heedless_paper, table=table)
            words.add(paper[0])
            careless = slow_careless(spec, spec.kinds)
            told = ("heedless",) + verdict_paper(table)[1:] if careless is None else ("careless",) + careless
            self.assertSame(paper, told)
            self.assertIs(self.agrees(heedless_holds, trade=spec.trade, value=paper), True)
        self.assertEqual(words, {"heedless", "careless"})

    def test_bent_papers(self):
        dice = random.Random(415)
        held = []
        for spec in cases(416, 60):
            for bent in bends(dice, heedless_paper(Table(spec.trade)), 40):
                held.append(is_shown_by(slow_heedless, spec, bent))
                self.assertIs(heedless_holds(spec.trade, bent), held[-1], bent)
        self.assertGreater(held.count(True), 200)
        self.assertGreater(held.count(False), 500)

    def test_other_papers(self):
        for spec in cases(417, 40):
            for kind in spec.kinds:
                for chosen, other in itertools.product(takers(spec, kind), repeat=2):
                    for row in spec.rows(2):
                        paper = ("careless", kind, chosen, other, row)
                        told = is_shown_by(slow_heedless, spec, paper)
                        self.assertIs(heedless_holds(spec.trade, paper), told)
        word, sides, pairs = heedless_paper(Table(ALIKE.trade))
        self.assertEqual((word, len(sides), len(pairs) > 0), ("heedless", 2, True))
        self.assertIs(heedless_holds(ALIKE.trade, (word, sides, pairs[::-1])), True)
        rooms = verdict_paper(Table(ROOMS.trade))
        self.assertIs(heedless_holds(ROOMS.trade, ("heedless",) + rooms[1:]), False)
        for value in ANY:
            self.assertIs(heedless_holds(ALIKE.trade, value), False)
            for paper in ((word, sides, pairs), ("careless", "b", 0, 2, "c")):
                for at in range(len(paper)):
                    spec = ALIKE if len(paper) == 3 else HALF
                    bent = paper[:at] + (value,) + paper[at + 1:]
                    told = is_shown_by(slow_heedless, spec, bent)
                    self.assertIs(heedless_holds(spec.trade, bent), told and is_plain_row(bent))
        self.assertTrue(same(heedless_paper(Table(STILL.trade)), ("heedless", (), ())))


def is_plain_row(paper):
    return paper[0] != "careless" or isinstance(paper[4], str)


if __name__ == "__main__":
    unittest.main()
