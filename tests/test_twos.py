import itertools
import random
import unittest

from helpers import (ANY, CROSSED, NO_SEQUENCES, RING, ROOMS, SILENT, STILL, TIDE, Case, Spec, choices,
                     ending_spec, no_letters, no_stands, specs)
from rueless.errors import BadHouse, CannotTake, NoLetter, NoStand
from rueless.relations import Relation
from rueless.twos import Table
from rueless.verdict import is_rueless

TOLD = [CROSSED, RING, ROOMS, SILENT, STILL, TIDE, ending_spec(random.Random(7), 7, "ab", "0")]
WORDS = {(True, True): "both", (True, False): "first", (False, True): "second", (False, False): "none"}


def slow_ranks(spec):
    """The ranks of the pairs of houses of two that fail, by the words of the document."""
    houses = list(itertools.combinations_with_replacement(range(spec.stands), 2))
    moves = {(house, letter): spec.moves(house, letter) for house in houses for letter in spec.letters}
    ranks = {}
    rounds = 0
    while True:
        rounds += 1
        found = [(x, y) for x in houses for y in houses if (x, y) not in ranks and any(
            all((x2, y2) in ranks for y2 in moves[(y, letter)]) for letter in spec.letters for x2 in moves[(x, letter)])]
        if not found:
            return houses, moves, ranks
        ranks.update({pair: rounds for pair in found})


class TableTest(Case):
    def test_against_the_words(self):
        for spec in specs(38, 40) + TOLD:
            table = Table(trade=spec.trade)
            houses, moves, ranks = slow_ranks(spec)
            self.assertIs(table.trade, spec.trade)
            self.assertSame(table.houses, tuple(houses))
            self.assertIsInstance(table.relation, Relation)
            pairs = [(at, to) for at, x in enumerate(houses) for to, y in enumerate(houses) if (x, y) not in ranks]
            self.assertSame(table.relation.pairs(), tuple(pairs))
            for x, y in random.Random(39).sample(list(itertools.product(houses, repeat=2)), min(60, len(houses) ** 2)):
                mixed = {"x": list(x)[::-1], "y": list(y)[::-1]}
                rank = ranks.get((x, y))
                self.assertIs(self.agrees(table.is_followed, **mixed), rank is None)
                self.assertSame(self.agrees(table.rank, **mixed), rank)
                struck = [(letter, x2) for letter in spec.letters for x2 in moves[(x, letter)] if rank
                          and all(ranks.get((x2, y2), rank) < rank for y2 in moves[(y, letter)])]
                self.assertSame(self.agrees(table.strike, **mixed), struck[0] if struck else None)
                for letter in spec.letters:
                    answers = [y2 for y2 in moves[(y, letter)] if (x, y2) not in ranks]
                    told = self.agrees(table.answer, y=list(y)[::-1], letter=letter, house=list(x)[::-1])
                    self.assertSame(told, answers[0] if answers else None)

    def test_ranks_against_rows(self):
        for spec in specs(40, 40, stands=(2, 3)) + TOLD[:6]:
            table = Table(spec.trade)
            for x in table.houses:
                for y in table.houses:
                    row = spec.parting(x, y)
                    if table.is_followed(x, y):
                        self.assertIsNone(row)
                    elif is_rueless(table):
                        self.assertEqual(len(row), table.rank(x, y))
                    elif row is not None:
                        self.assertLessEqual(table.rank(x, y), len(row))

    def test_wrong_houses_and_letters(self):
        table = Table(TIDE.trade)
        for call in (table.is_followed, table.rank, table.strike):
            for value in NO_SEQUENCES:
                self.fails(BadHouse(-1), call, value, None)
                self.fails(BadHouse(-1), call, [0, 1], value)
            for value in no_stands(TIDE):
                self.fails(BadHouse(0), call, [value, "x"], None)
                self.fails(BadHouse(2), call, [0, 1], [0, 1, value])
            for many in (0, 1, 3, 6):
                self.fails(BadHouse(min(2, many)), call, [0] * many, None)
                self.fails(BadHouse(min(2, many)), call, [0, 1], [0] * many)
            self.fails(BadHouse(6), call, [0, 1], [0] * 7)
        self.fails(BadHouse(1), table.answer, [0], "x", [0])
        for value in no_letters("ab0"):
            self.fails(NoLetter(value), table.answer, [0, 1], value, [0])
        self.fails(BadHouse(1), table.answer, [0, 1], "a", [0])
        self.fails(BadHouse(-1), table.answer, [0, 1], "0", "01")

    def test_objects_are_no_collections(self):
        for thing in (Table(TIDE.trade), Table(TIDE.trade).relation):
            self.assertRaises(TypeError, iter, thing)
            self.assertRaises(TypeError, len, thing)


class SideTest(Case):
    def test_sides(self):
        for spec in specs(41, 60) + TOLD:
            table = Table(spec.trade)
            _, _, ranks = slow_ranks(spec)
            for kind in spec.kinds:
                takers = [stand for stand in range(spec.stands) if spec.ways[kind][stand] is not None]
                told = {}
                for p, q in itertools.product(takers, repeat=2):
                    first, second = choices(spec, kind, p, q)
                    word = WORDS[((second, first) not in ranks, (first, second) not in ranks)]
                    told[(p, q)] = word
                    self.assertSame(self.agrees(table.side, kind=kind, p=p, q=q), word)
                    better = {"both": p, "first": p, "second": q, "none": None}[word]
                    self.assertSame(self.agrees(table.better, kind=kind, p=p, q=q), better)
                self.assertSame(self.agrees(table.sides, kind=kind),
                                tuple((p, q, told[(p, q)]) for p in takers for q in takers if p < q))
                for p in takers:
                    self.assertEqual(told[(p, p)], "both")

    def test_wrong_values_in_order(self):
        table = Table(ROOMS.trade)
        for call in (table.side, table.better):
            for value in no_letters("ab"):
                self.fails(NoLetter(value), call, value, "x", "y")
            for value in no_stands(ROOMS):
                self.fails(NoStand(value), call, "a", value, "y")
                self.fails(NoStand(value), call, "a", 2, value)
            for p, q in ((2, 0), (0, 2), (2, 2)):
                self.fails(CannotTake("a"), call, "a", p, q)
        for value in no_letters("ab"):
            self.fails(NoLetter(value), table.sides, value)
        for value in ANY:
            if value != "0":
                self.fails(NoLetter(value), Table(SILENT.trade).sides, value)
        self.fails(NoLetter("0"), Table(SILENT.trade).sides, "0")

    def test_told_sides(self):
        self.assertSame(Table(ROOMS.trade).sides("a"), ((0, 1, "first"),))
        self.assertSame(Table(CROSSED.trade).sides("c"), ((0, 1, "none"),))
        self.assertSame(Table(Spec(2, {"a": [0, 1]}).trade).sides("a"), ((0, 1, "both"),))
        self.assertSame(Table(Spec(3, {"a": [2, 2, None], "b": [2, None, None]}).trade).sides("a"), ((0, 1, "second"),))


if __name__ == "__main__":
    unittest.main()
