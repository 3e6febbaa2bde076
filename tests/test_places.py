import itertools
import random
import unittest

from helpers import (ANY, RING, ROOMS, SILENT, STILL, TIDE, Case, Spec, ending_spec, no_letters, no_stands,
                     random_house, random_spec, specs)
from rueless.errors import BadHouse, NoLetter, NoStand
from rueless.places import (alike_stands, below, below_paper, covering, exchange_fault, exchanges, holds_below,
                            idle_stands, is_below, least_trade, left_out_fault, left_outs, parting_row, stand_in_fault,
                            stand_ins)
from rueless.trades import Trade

TWINS = Spec(4, {"a": [2, 3, None, None], "b": [None, None, 0, 1]}, {"0": [1, 0, 3, 2]})


def trades(seed, many):
    return specs(seed, many, stands=(1, 2, 3, 4), empty=0.45) + [TIDE, ROOMS, RING, TWINS, SILENT, STILL]


def one_place(spec, stand, row):
    for letter in row:
        if stand is not None:
            stand = spec.ways[letter][stand]
    return stand is not None


def first_fault(spec, head, other, most, both):
    """(stand, row, row) of the first rest of at most so many letters behind both heads."""
    for stand in range(spec.stands):
        for rest in spec.rows(most):
            one, two = one_place(spec, stand, head + rest), one_place(spec, stand, other + rest)
            if (one and not two) or (both and two and not one):
                return (stand, head + rest, other + rest)
    return None


class BelowTest(Case):
    def test_below_and_parting_rows(self):
        for spec in trades(16, 40):
            pairs = []
            for p, q in itertools.product(range(spec.stands), repeat=2):
                row = spec.parting((p,), (q,))
                self.assertSame(parting_row(trade=spec.trade, p=p, q=q), row)
                self.assertIs(is_below(trade=spec.trade, p=p, q=q), row is None)
                slow = [one for one in spec.rows(3) if one_place(spec, p, one) and not one_place(spec, q, one)]
                self.assertEqual(slow[:1], [row] if row is not None and len(row) <= 3 else [])
                if row is None:
                    pairs.append((p, q))
            self.assertSame(below(trade=spec.trade), tuple(pairs))

    def test_wrong_stands(self):
        for value in no_stands(TIDE):
            for call in (is_below, parting_row, below_paper):
                self.fails(NoStand(value), call, TIDE.trade, value, "x")
                self.fails(NoStand(value), call, TIDE.trade, 0, value)
            self.fails(NoStand(value), holds_below, TIDE.trade, value, "x", ())
            self.fails(NoStand(value), holds_below, TIDE.trade, 0, value, ())

    def test_papers(self):
        for spec in trades(17, 40):
            for p, q in itertools.product(range(spec.stands), repeat=2):
                word, told = self.agrees(below_paper, trade=spec.trade, p=p, q=q)
                self.assertIs(holds_below(trade=spec.trade, p=p, q=q, value=(word, told)), True)
                if word == "parts":
                    self.assertSame(told, spec.parting((p,), (q,)))
                    continue
                self.assertEqual(word, "below")
                self.assertEqual(list(told), sorted(set(told)))
                self.assertSame(told, self.least_pairs(spec, p, q))
                self.assertIs(holds_below(spec.trade, p, q, (word, told[::-1] + told[:1])), True)
                for at, pair in enumerate(told):
                    self.assertIs(holds_below(spec.trade, p, q, (word, told[:at] + told[at + 1:])), False)
                    for bent in ([*pair], pair + (0,), (pair[0], True), (pair[0], spec.stands), (None, pair[1])):
                        self.assertIs(holds_below(spec.trade, p, q, (word, told + (bent,))), False)

    def least_pairs(self, spec, p, q):
        met = {(p, q)}
        for _ in range(20):
            met |= {(spec.ways[letter][x], spec.ways[letter][y]) for x, y in met for letter in spec.letters
                    if spec.ways[letter][x] is not None}
        return tuple(sorted(met))

    def test_what_holds_of_any_value(self):
        self.assertSame(below_paper(ROOMS.trade, 0, 1), ("below", ((0, 1), (2, 2))))
        self.assertIs(holds_below(ROOMS.trade, 0, 1, ("below", ((2, 2), (0, 1), (0, 0), (1, 1), (0, 1)))), True)
        self.assertIs(holds_below(ROOMS.trade, 0, 1, ("below", ((2, 2), (0, 1), (1, 0)))), False)
        self.assertIs(holds_below(ROOMS.trade, 1, 0, ("parts", "b")), True)
        for row in ANY + ["bb", "ab", "a", "0", "b" * 201]:
            self.assertIs(holds_below(ROOMS.trade, 1, 0, ("parts", row)), False)
        self.assertIs(holds_below(TIDE.trade, 0, 1, ("parts", "000" * 66 + "0b")), False)
        self.assertIs(holds_below(TIDE.trade, 0, 1, ("parts", "000" * 66 + "a")), True)
        self.assertIs(holds_below(TIDE.trade, 0, 1, ("parts", "000" * 67 + "a")), False)
        for value in ANY + [("parts",), ("parts", "b", 0), ["parts", "b"], ("below", "b"), ("below", ()), ("x", "b"), ("x", ((0, 1), (2, 2)))]:
            self.assertIs(holds_below(ROOMS.trade, 1, 0, value), False)
            self.assertIs(holds_below(ROOMS.trade, 0, 1, ("below", value)), False)
            self.assertIs(holds_below(ROOMS.trade, 0, 1, value), False)

    def test_alike_stands_and_least_trade(self):
        for spec in trades(18, 40):
            pairs = below(spec.trade)
            told = alike_stands(trade=spec.trade)
            self.assertEqual(sorted(stand for alike in told for stand in alike), list(range(spec.stands)))
            self.assertEqual(list(told), sorted(tuple(sorted(alike)) for alike in told))
            number = {stand: at for at, alike in enumerate(told) for stand in alike}
            for p, q in itertools.product(range(spec.stands), repeat=2):
                self.assertEqual(number[p] == number[q], (p, q) in pairs and (q, p) in pairs)
            least, classes = least_trade(trade=spec.trade)
            self.assertSame(classes, tuple(number[stand] for stand in range(spec.stands)))
            self.assertSame((least.stands, least.letters), (len(told), spec.letters))
            for letter in spec.letters:
                for stand in range(spec.stands):
                    behind = spec.ways[letter][stand]
                    self.assertSame(least.step(classes[stand], letter), None if behind is None else classes[behind])
        self.assertSame(alike_stands(TWINS.trade), ((0, 1), (2, 3)))
        self.assertSame(alike_stands(SILENT.trade), ((0, 1),))
        self.assertEqual(least_trade(STILL.trade), (Trade(1, {}), (0, 0)))
        self.assertEqual(alike_stands(Trade(10, {"a": [9] * 9 + [None]})), (tuple(range(9)), (9,)))

    def test_idle_stands(self):
        for spec in trades(19, 40):
            idle = [stand for stand in range(spec.stands)
                    if not any(one_place(spec, stand, "".join(beats) + kind) for many in range(5)
                               for beats in itertools.product(spec.beats, repeat=many) for kind in spec.kinds)]
            self.assertSame(idle_stands(trade=spec.trade), tuple(idle))
        self.assertSame((idle_stands(ROOMS.trade), idle_stands(SILENT.trade), idle_stands(TIDE.trade)),
                        ((2,), (0, 1), ()))

    def test_covering(self):
        dice = random.Random(20)
        for spec in trades(21, 40):
            for _ in range(4):
                house, other = random_house(dice, spec, 3), random_house(dice, spec, 4)
                pairs = below(spec.trade)
                ways = [way for way in itertools.permutations(range(len(other)), len(house))
                        if all((house[at], other[place]) in pairs for at, place in enumerate(way))]
                told = self.agrees(covering, trade=spec.trade, house=list(house)[::-1], other=list(other)[::-1])
                self.assertSame(told, min(ways, default=None))
        self.assertSame(covering(ROOMS.trade, (), ()), ())
        self.assertSame(covering(ROOMS.trade, [0], []), None)
        self.assertSame(covering(ROOMS.trade, [0, 0, 1], [1, 1, 1]), (0, 1, 2))
        self.fails(BadHouse(0), covering, ROOMS.trade, [3], "x")
        self.fails(BadHouse(-1), covering, ROOMS.trade, [0], "x")


class LettersTest(Case):
    def test_faults(self):
        dice = random.Random(22)
        every = trades(23, 25) + [random_spec(dice, 2, "abcd", "01", 0.2) for _ in range(5)]
        for spec in every:
            most = 3 if len(spec.letters) > 3 else 4
            pairs = []
            for x, y in itertools.product(spec.letters, repeat=2):
                fault = self.agrees(exchange_fault, trade=spec.trade, x=x, y=y)
                self.check(spec, fault, x + y, y + x, most, True)
                if fault is None and spec.letters.index(x) < spec.letters.index(y):
                    pairs.append((x, y))
            self.assertSame(exchanges(trade=spec.trade), tuple(pairs))
            kinds = []
            for c, d in itertools.product(spec.kinds, repeat=2):
                fault = self.agrees(stand_in_fault, trade=spec.trade, c=c, d=d)
                self.check(spec, fault, c, d, most, False)
                if fault is None and c != d:
                    kinds.append((c, d))
            self.assertSame(stand_ins(trade=spec.trade), tuple(kinds))
            for c in spec.kinds:
                self.check(spec, self.agrees(left_out_fault, trade=spec.trade, c=c), c, "", most, False)
            self.assertSame(left_outs(trade=spec.trade),
                            "".join(c for c in spec.kinds if left_out_fault(spec.trade, c) is None))

    def check(self, spec, fault, head, other, most, both):
        """The fault is the first one; beyond so many letters only that it is one."""
        told = first_fault(spec, head, other, most, both)
        if told is not None or fault is None or len(fault[1]) <= most + len(head):
            self.assertSame(told, fault)
        else:
            one, two = one_place(spec, fault[0], fault[1]), one_place(spec, fault[0], fault[2])
            self.assertTrue(one != two if both else one and not two)

    def test_of_houses_of_more_places(self):
        dice = random.Random(24)
        for spec in trades(25, 25):
            house = random_house(dice, spec, 3)
            for head in spec.rows(2):
                for rest in spec.rows(2):
                    for x, y in exchanges(spec.trade):
                        self.assertEqual(spec.serves(house, head + x + y + rest), spec.serves(house, head + y + x + rest))
                    for c, d in stand_ins(spec.trade):
                        self.assertTrue(not spec.serves(house, head + c + rest) or spec.serves(house, head + d + rest))
                    for c in left_outs(spec.trade):
                        self.assertTrue(not spec.serves(house, head + c + rest) or spec.serves(house, head + rest))

    def test_told_trades(self):
        self.assertSame(exchange_fault(ROOMS.trade, "a", "b"), None)
        self.assertSame(stand_in_fault(ROOMS.trade, "a", "b"), (0, "a", "b"))
        self.assertSame((stand_ins(ROOMS.trade), left_outs(ROOMS.trade)), ((("b", "a"),), "ab"))
        self.assertSame(exchange_fault(Trade(2, {"a": [1, None]}, {"0": [1, 0]}), "a", "0"), (0, "a0", "0a"))
        self.assertSame(exchange_fault(Trade(2, {"a": [1, None]}, {"0": [1, 0]}), "0", "a"), (0, "0a", "a0"))
        self.assertSame(left_out_fault(Trade(2, {"a": [1, None], "b": [None, 1]}), "a"), (0, "ab", "b"))
        self.assertSame(exchange_fault(TIDE.trade, "a", "a"), None)
        self.assertSame(stand_in_fault(TIDE.trade, "b", "b"), None)
        self.assertSame(exchanges(SILENT.trade), ())
        self.assertSame(exchanges(Trade(1, {"a": [0]}, {"0": [0], "1": [0]})), (("a", "0"), ("a", "1"), ("0", "1")))

    def test_wrong_letters(self):
        for value in no_letters("ab0"):
            self.fails(NoLetter(value), exchange_fault, TIDE.trade, value, "x")
            self.fails(NoLetter(value), exchange_fault, TIDE.trade, "0", value)
        for value in no_letters("ab"):
            self.fails(NoLetter(value), stand_in_fault, TIDE.trade, value, "x")
            self.fails(NoLetter(value), stand_in_fault, TIDE.trade, "a", value)
            self.fails(NoLetter(value), left_out_fault, TIDE.trade, value)

    def test_many_stands(self):
        spec = ending_spec(random.Random(26), 10, "ab", "0")
        for p, q in itertools.product(range(10), repeat=2):
            self.assertSame(parting_row(spec.trade, p, q), spec.parting((p,), (q,)))


if __name__ == "__main__":
    unittest.main()
