import itertools
import random
import unittest

from helpers import (ANY, NO_SEQUENCES, NO_STRINGS, ROOMS, SILENT, TIDE, Case, ending_spec, no_stands, random_house,
                     random_row, specs)
from rueless.dealings import dealt_rows, is_dealing, some_dealing
from rueless.errors import BadHouse, BadRow, PaperFault

LONG = ending_spec(random.Random(7), 8, "ab", "0")


def dealt(spec, row, dealing):
    told = list(dealing)
    sides = [None if letter in spec.beats else told.pop(0) for letter in row]
    return tuple("".join(letter for letter, one in zip(row, sides) if one in (None, side)) for side in (0, 1))


class DealtRowsTest(Case):
    def test_dealt_rows(self):
        dice = random.Random(31)
        for spec in specs(32, 30) + [TIDE, SILENT]:
            row = random_row(dice, spec, 6)
            for dealing in itertools.product((0, 1), repeat=sum(letter in spec.kinds for letter in row)):
                self.assertSame(self.agrees(dealt_rows, trade=spec.trade, row=row, dealing=list(dealing)),
                                dealt(spec, row, dealing))
        self.assertSame(dealt_rows(TIDE.trade, "0ab0b1"[:5], [1, 0, 1]), ("0b0", "0a0b"))
        self.assertSame(dealt_rows(TIDE.trade, "", ()), ("", ""))

    def test_wrong_values(self):
        for value in NO_STRINGS:
            self.fails(BadRow(-1), dealt_rows, TIDE.trade, value, None)
        self.fails(BadRow(1), dealt_rows, TIDE.trade, "a1", None)
        for value in NO_SEQUENCES + [[0], [0, 1, 0], (), (1,) * 9]:
            self.fails(PaperFault(-1), dealt_rows, TIDE.trade, "a0b", value)
        for value in ANY:
            if not (type(value) is int and value in (0, 1)):
                self.fails(PaperFault(1), dealt_rows, TIDE.trade, "a0b", [0, value])
                self.fails(PaperFault(0), dealt_rows, TIDE.trade, "a0b", (value, "x"))
        self.fails(PaperFault(-1), dealt_rows, TIDE.trade, "0", [0])


class DealingTest(Case):
    def test_some_dealing(self):
        dice = random.Random(33)
        for spec in specs(34, 60, empty=0.3) + [TIDE, ROOMS, SILENT, LONG] * 2:
            house, other = random_house(dice, spec, 2), random_house(dice, spec, 2)
            row = random_row(dice, spec, 5)
            every = itertools.product((0, 1), repeat=sum(letter in spec.kinds for letter in row))
            right = []
            for dealing in every:
                rows = dealt(spec, row, dealing)
                is_right = spec.serves(house, rows[0]) and spec.serves(other, rows[1])
                self.assertIs(is_dealing(trade=spec.trade, house=list(house), other=other, row=row, value=dealing),
                              is_right)
                self.assertIs(is_dealing(spec.trade, house, other, row, list(dealing)), False)
                right += [dealing] if is_right else []
            told = self.agrees(some_dealing, trade=spec.trade, house=list(house)[::-1], other=list(other)[::-1],
                               row=row)
            self.assertSame(told, right[0] if right else None)
            self.assertIs(told is not None, spec.serves(house + other, row))
            for value in ANY + [(0,) * 9, (True,) * 3]:
                if value not in right or any(isinstance(one, bool) for one in value):
                    self.assertIs(is_dealing(spec.trade, house, other, row, value), False)

    def test_no_bool_is_a_side(self):
        self.assertIs(is_dealing(TIDE.trade, [1], [1], "bb", (0, 1)), True)
        self.assertIs(is_dealing(TIDE.trade, [1], [1], "bb", (False, True)), False)
        self.assertIs(is_dealing(TIDE.trade, [1], [1], "bb", (0, 1, 0)), False)

    def test_long_rows(self):
        row = "ab0" * 20
        dealing = some_dealing(TIDE.trade, [0, 1, 2], [2, 2, 0], row)
        self.assertEqual(len(dealing), 40)
        self.assertIs(is_dealing(TIDE.trade, [0, 1, 2], [2, 2, 0], row, dealing), True)

    def test_wrong_values_in_order(self):
        for call, more in ((some_dealing, ()), (is_dealing, (5,))):
            for value in NO_SEQUENCES:
                self.fails(BadHouse(-1), call, TIDE.trade, value, None, None, *more)
                self.fails(BadHouse(-1), call, TIDE.trade, [0], value, None, *more)
            for value in no_stands(TIDE):
                self.fails(BadHouse(0), call, TIDE.trade, [value], "x", None, *more)
                self.fails(BadHouse(1), call, TIDE.trade, [0], [0, value], None, *more)
            self.fails(BadHouse(6), call, TIDE.trade, [0] * 3, [0] * 4, None, *more)
            self.fails(BadHouse(4), call, LONG.trade, [0] * 2, [0] * 3, None, *more)
            for value in NO_STRINGS:
                self.fails(BadRow(-1), call, TIDE.trade, [0] * 3, [0] * 3, value, *more)
            self.fails(BadRow(2), call, TIDE.trade, [0], [0], "aax", *more)
            self.fails(BadRow(200), call, TIDE.trade, [0], [0], "a" * 201, *more)


if __name__ == "__main__":
    unittest.main()
