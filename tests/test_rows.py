import random
import unittest

from helpers import (ANY, NO_SEQUENCES, NO_STRINGS, RING, ROOMS, SILENT, STILL, TIDE, Case, ending_spec,
                     random_house, random_row, specs)
from rueless.errors import BadHouse, BadRow, Refused
from rueless.rows import (all_servings, can_serve, front_of, fronts, holds_row, is_serving, longest_served, plays,
                          row_paper, rows_served, serving_count, some_serving)
from rueless.trades import Trade

LONG = ending_spec(random.Random(7), 8, "ab", "0")
WITH_ROW = [fronts, front_of, can_serve, longest_served, serving_count, some_serving, row_paper]
WITH_MORE = [plays, is_serving, holds_row]


def cases(seed, many, length):
    dice = random.Random(seed)
    for spec in specs(seed, many, empty=0.3) + [TIDE, ROOMS, RING, LONG, SILENT, STILL] * 3:
        yield spec, random_house(dice, spec, 4), random_row(dice, spec, length)


class RowTest(Case):
    def test_what_is_no_row(self):
        for call in WITH_ROW + WITH_MORE:
            more = (5,) if call in WITH_MORE else ()
            for value in NO_STRINGS:
                self.fails(BadRow(-1), call, TIDE.trade, [0], value, *more)
            for row, at in (("x", 0), ("a1", 1), ("ab0c", 3), ("a" * 200 + "x", 200), ("a" * 399 + "x", 399),
                            ("a" * 201, 200), ("a" * 400, 200), ("A", 0), ("a b", 1)):
                self.fails(BadRow(at), call, TIDE.trade, [0], row, *more)
            self.fails(BadHouse(0), call, TIDE.trade, [3], None, *more)
            self.fails(BadHouse(-1), call, TIDE.trade, "0", "x", *more)
        self.fails(BadRow(0), fronts, STILL.trade, [0], "a")
        self.assertSame(can_serve(TIDE.trade, [2], "a" * 200), True)

    def test_fronts(self):
        for spec, house, row in cases(12, 60, 7):
            told = self.agrees(fronts, trade=spec.trade, house=list(house)[::-1], row=row)
            self.assertSame(told, tuple(spec.front(house, row[:many]) for many in range(len(row) + 1)))
            self.assertSame(self.agrees(front_of, trade=spec.trade, house=list(house), row=row), told[-1])
            self.assertIs(self.agrees(can_serve, trade=spec.trade, house=list(house), row=row), told[-1] != ())
            self.assertSame(self.agrees(longest_served, trade=spec.trade, house=list(house), row=row),
                            max(many for many in range(len(row) + 1) if told[many]))

    def test_the_empty_row_and_the_empty_house(self):
        self.assertSame(fronts(TIDE.trade, [1, 0], ""), (((0, 1),),))
        self.assertSame(fronts(TIDE.trade, (), "0a0"), (((),), ((),), (), ()))
        self.assertSame((can_serve(TIDE.trade, [], "00"), longest_served(TIDE.trade, [], "00a0")), (True, 2))
        self.assertSame((some_serving(TIDE.trade, [], "0"), serving_count(TIDE.trade, [], "0")), ((), 1))
        self.assertSame((some_serving(TIDE.trade, [], "a"), serving_count(TIDE.trade, [], "a")), (None, 0))

    def test_long_rows(self):
        row = "ab0" * 66 + "ab"
        self.assertSame(len(fronts(TIDE.trade, [0, 1, 2, 2], row)), 201)
        serving = some_serving(TIDE.trade, [0, 1, 2, 2], row)
        self.assertSame(len(serving), 134)
        self.assertIs(is_serving(TIDE.trade, [0, 1, 2, 2], row, serving), True)
        self.assertSame(longest_served(ROOMS.trade, [0, 1], "ab" * 100), 2)
        self.assertSame(next(all_servings(TIDE.trade, [2, 1, 0, 2], row)), serving)

    def test_rows_served(self):
        for spec, house, _ in cases(13, 30, 0):
            for length in range(4):
                told = [row for row in spec.rows(length) if len(row) == length and spec.serves(house, row)]
                for value in (house, list(house)[::-1]):
                    self.assertEqual(list(rows_served(spec.trade, value, length)), told)
                self.assertEqual(list(rows_served(trade=spec.trade, house=house, letters=length)), told)
        self.assertEqual(list(rows_served(TIDE.trade, [1], 1)), ["b", "0"])
        self.assertEqual(next(rows_served(TIDE.trade, [2], 200)), "a" * 200)

    def test_generators_fail_when_they_are_iterated(self):
        for call, more in ((rows_served, (1,)), (all_servings, ("a",))):
            made = call(TIDE.trade, [3], *more)
            self.assertIs(iter(made), made)
            self.fails(BadHouse(0), named(made), )
        for value in ANY + [201]:
            if not (type(value) is int and 0 <= value <= 200):
                self.fails(BadRow(-1), named(rows_served(TIDE.trade, [0], value)))
        self.fails(BadHouse(0), named(rows_served(TIDE.trade, ["x"], -1)))
        for value in NO_STRINGS:
            self.fails(BadRow(-1), named(all_servings(TIDE.trade, [0], value)))
        self.fails(BadRow(1), named(all_servings(TIDE.trade, [0], "a1")))


def named(made):
    def taken():
        return list(made)
    return taken


class ServingTest(Case):
    def test_servings(self):
        for spec, house, row in cases(14, 80, 6):
            told = [serving for serving, _ in spec.servings(house, row)]
            mixed = list(house)[::-1]
            self.assertEqual(told, sorted(told))
            self.assertSame(self.agrees(some_serving, trade=spec.trade, house=mixed, row=row),
                            told[0] if told else None)
            self.assertSame(self.agrees(serving_count, trade=spec.trade, house=mixed, row=row), len(told))
            self.assertSame(tuple(all_servings(spec.trade, mixed, row)), tuple(told))
            self.assertSame(tuple(all_servings(trade=spec.trade, house=house, row=row)), tuple(told))
            for serving, houses in spec.servings(house, row)[:5]:
                self.assertSame(self.agrees(plays, trade=spec.trade, house=mixed, row=row, serving=list(serving)), houses)
                self.assertIs(is_serving(trade=spec.trade, house=mixed, row=row, value=serving), True)
                self.assertIs(is_serving(spec.trade, house, row, list(serving)), False)
                self.assertIs(is_serving(spec.trade, house, row, serving + (0,)), False)

    def test_many_servings(self):
        trade = Trade(6, {"a": list(range(6))})
        self.assertSame(serving_count(trade, [0, 1, 2, 3, 4, 5], "a" * 60), 6 ** 60)

    def test_faulty_plays(self):
        trade = ROOMS.trade
        self.assertSame(plays(trade, [1, 0], "ab", (0, 1)), ((0, 1), (1, 2), (2, 2)))
        for value in NO_SEQUENCES:
            self.fails(Refused(-1), plays, trade, [0, 1], "ab", value)
            self.assertIs(is_serving(trade, [0, 1], "ab", value), False)
        for value in [one for one in ANY if not (type(one) is int and one in (0, 1))]:
            self.fails(Refused(0), plays, trade, [0, 1], "ab", [value, 9])
            self.assertIs(is_serving(trade, [0, 1], "ab", (value, 1)), False)
        self.fails(Refused(1), plays, trade, [0, 1], "ab", (0, True))
        self.fails(Refused(1), plays, trade, [0, 1], "ab", (1, 0))
        self.fails(Refused(1), plays, trade, [0, 1], "ab", (0,))
        self.fails(Refused(0), plays, trade, [0, 1], "ab", ())
        self.fails(Refused(2), plays, trade, [0, 1], "ab", (0, 1, 0))
        self.fails(Refused(0), plays, trade, [0, 1], "", (0,))
        self.fails(Refused(3), plays, TIDE.trade, [0, 1], "0a0a", [2, 1])
        self.fails(Refused(4), plays, TIDE.trade, [0, 1], "0a0b", [2, 0, 1])

    def test_row_papers(self):
        for spec, house, row in cases(15, 60, 6):
            mixed = list(house)[::-1]
            servings = [serving for serving, _ in spec.servings(house, row)]
            told = self.agrees(row_paper, trade=spec.trade, house=mixed, row=row)
            if servings:
                self.assertSame(told, ("serving", servings[0]))
                for serving in servings[:4]:
                    self.assertIs(holds_row(trade=spec.trade, house=mixed, row=row, value=("serving", serving)), True)
            else:
                every = [spec.front(house, row[:many]) for many in range(len(row) + 1)]
                self.assertSame(told, ("refusal", tuple(every[:every.index(()) + 1])))
                self.assertIs(holds_row(spec.trade, mixed, row, told), True)
                bent = [told[1][:-1], told[1] + ((),), told[1][1:], list(told[1]), ()]
                for value in bent:
                    self.assertIs(holds_row(spec.trade, house, row, ("refusal", value)), False)
            for value in ANY + [told[:1], told + ((),), list(told), ("serving", list(told[1])), (told[1], told[0]),
                                ("refusal", ()), ("refusal", (((0,),),)), ("x", told[1])]:
                self.assertIs(holds_row(spec.trade, house, row, value), False)

    def test_no_bool_is_a_stand(self):
        self.assertIs(holds_row(ROOMS.trade, [0, 1], "ab", ("serving", (0, 1))), True)
        self.assertIs(holds_row(ROOMS.trade, [0, 1], "ab", ("serving", (False, True))), False)
        self.assertIs(holds_row(ROOMS.trade, [0, 1], "bb", ("refusal", (((0, 1),), ((0, 2),), ()))), True)
        self.assertIs(holds_row(ROOMS.trade, [0, 1], "bb", ("refusal", (((False, True),), ((0, 2),), ()))), False)
        self.assertIs(holds_row(ROOMS.trade, [0, 1], "bb", ("refusal", (((0, 1),), [(0, 2)], ()))), False)


if __name__ == "__main__":
    unittest.main()
