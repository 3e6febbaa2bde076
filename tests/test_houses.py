import itertools
import random
import unittest

from helpers import (ANY, NO_SEQUENCES, ROOMS, SILENT, STILL, TIDE, Case, ending_spec, no_letters, no_stands,
                     random_house, specs)
from rueless.errors import BadHouse, CannotTake, NoLetter, NoStand
from rueless.houses import (all_houses, beaten, house_count, house_number, house_of, is_bag_within, is_house, merged,
                            moves_of, numbered_house, one_less, reached_houses, served, takers, with_stand,
                            without_stand)

LONG = ending_spec(random.Random(7), 8, "ab", "0")
WITH_HOUSE = [(house_of, ()), (takers, ("x",)), (served, ("x", 0)), (beaten, ("x",)), (moves_of, ("x",)),
              (merged, (5,)), (with_stand, ("x",)), (without_stand, ("x",)), (one_less, ()), (house_number, ()),
              (reached_houses, ())]


def number_below(value, bound):
    return type(value) is int and 0 <= value < bound


class HouseTest(Case):
    def test_what_is_a_house(self):
        for stands in ([], [2], [2, 0, 1], [1, 1, 0, 0, 2, 2]):
            self.assertSame(self.agrees(house_of, trade=TIDE.trade, stands=stands), tuple(sorted(stands)))
        self.assertSame(house_of(LONG.trade, [7, 0, 6, 6]), (0, 6, 6, 7))

    def test_what_is_no_house(self):
        for call, more in WITH_HOUSE:
            for value in NO_SEQUENCES:
                self.fails(BadHouse(-1), call, TIDE.trade, value, *more)
            for value in no_stands(TIDE):
                self.fails(BadHouse(1), call, TIDE.trade, [0, value, "y"], *more)
            self.fails(BadHouse(6), call, TIDE.trade, [0] * 7, *more)
            self.fails(BadHouse(8), call, TIDE.trade, [0] * 8 + [3], *more)
            self.fails(BadHouse(4), call, LONG.trade, (0,) * 5, *more)
        self.fails(BadHouse(0), merged, TIDE.trade, [0], [3])
        self.fails(BadHouse(-1), merged, TIDE.trade, [0] * 6, "0")

    def test_places(self):
        self.assertSame(house_of(TIDE.trade, [1, 0], places=2), (0, 1))
        self.assertSame(house_of(TIDE.trade, [], places=0), ())
        self.fails(BadHouse(1), house_of, TIDE.trade, [0], places=3)
        self.fails(BadHouse(1), house_of, TIDE.trade, [0, 0, 0], places=1)
        self.fails(BadHouse(2), house_of, TIDE.trade, [0, 0], places=10 ** 9)
        self.fails(BadHouse(6), house_of, TIDE.trade, [0] * 7, places=2)
        self.fails(BadHouse(0), house_of, TIDE.trade, ["x"], places=2)
        for value in without_numbers():
            self.assertSame(house_of(TIDE.trade, [0], places=value), (0,))
        with self.assertRaises(TypeError):
            house_of(TIDE.trade, [0], 1)

    def test_is_house(self):
        for value in ANY + [(0, 0, 2), (2, 1), (3,), (0,) * 6, (0,) * 7, [0], (0, True), (-1, 0), (None,)]:
            is_right = isinstance(value, tuple) and len(value) <= 6 and all(number_below(one, 3) for one in value)
            self.assertIs(is_house(trade=TIDE.trade, value=value), is_right and list(value) == sorted(value))
        self.assertIs(is_house(LONG.trade, (0, 1, 2, 3)), True)
        self.assertIs(is_house(LONG.trade, (0, 1, 2, 3, 4)), False)

    def test_nothing_is_kept_of_a_list(self):
        house = [2, 0]
        made = with_stand(TIDE.trade, house, 1)
        house[0] = 1
        self.assertSame((made, house), ((0, 1, 2), [1, 0]))


def without_numbers():
    return [value for value in ANY if not (type(value) is int and value >= 0)]


class MovesTest(Case):
    def test_moves(self):
        dice = random.Random(8)
        for spec in specs(9, 40) + [LONG, SILENT, STILL]:
            house = random_house(dice, spec, 4)
            mixed = dice.sample(house, len(house))
            for kind in spec.kinds:
                choices = dict(spec.choices(house, kind))
                self.assertSame(self.agrees(takers, trade=spec.trade, house=mixed, kind=kind), tuple(sorted(choices)))
                for stand in range(spec.stands):
                    if stand in choices:
                        self.assertSame(self.agrees(served, trade=spec.trade, house=mixed, kind=kind, stand=stand),
                                        choices[stand])
                    else:
                        self.fails(CannotTake(kind), served, spec.trade, mixed, kind, stand)
            for beat in spec.beats:
                self.assertSame(self.agrees(beaten, trade=spec.trade, house=mixed, beat=beat),
                                spec.moves(house, beat)[0])
            for letter in spec.letters:
                self.assertSame(self.agrees(moves_of, trade=spec.trade, house=mixed, letter=letter),
                                tuple(spec.moves(house, letter)))

    def test_the_house_of_no_places(self):
        self.assertSame(takers(TIDE.trade, (), "a"), ())
        self.assertSame(moves_of(TIDE.trade, (), "a"), ())
        self.assertSame(moves_of(TIDE.trade, (), "0"), ((),))
        self.assertSame(beaten(TIDE.trade, [], "0"), ())
        self.assertSame(reached_houses(TIDE.trade, ()), ((),))
        self.assertSame(one_less(TIDE.trade, ()), ())
        self.fails(CannotTake("a"), served, TIDE.trade, (), "a", 0)

    def test_wrong_letters(self):
        for value in no_letters("ab"):
            self.fails(NoLetter(value), takers, TIDE.trade, [0], value)
            self.fails(NoLetter(value), served, TIDE.trade, [0], value, "x")
        for value in no_letters("0"):
            self.fails(NoLetter(value), beaten, TIDE.trade, [0], value)
        for value in no_letters("ab0"):
            self.fails(NoLetter(value), moves_of, TIDE.trade, [0], value)
        for value in no_stands(ROOMS):
            self.fails(CannotTake("a"), served, ROOMS.trade, [0, 1], "a", value)
        self.fails(CannotTake("a"), served, ROOMS.trade, [0, 1], "a", True)
        self.fails(CannotTake("b"), served, ROOMS.trade, [0, 1], "b", False)

    def test_reached_houses(self):
        for spec in specs(10, 30, stands=(1, 2, 3)) + [TIDE, SILENT, LONG]:
            house = random_house(random.Random(11), spec, 3)
            met = {house}
            while True:
                more = met | {behind for one in met for letter in spec.letters for behind in spec.moves(one, letter)}
                if more == met:
                    break
                met = more
            self.assertSame(self.agrees(reached_houses, trade=spec.trade, house=list(house[::-1])), tuple(sorted(met)))


class PlacesTest(Case):
    def test_merged_and_with_stand(self):
        self.assertSame(self.agrees(merged, trade=TIDE.trade, house=[2, 0], other=[1, 0]), (0, 0, 1, 2))
        self.assertSame(merged(TIDE.trade, (), ()), ())
        self.assertSame(len(merged(TIDE.trade, [0] * 3, [2] * 3)), 6)
        self.fails(BadHouse(6), merged, TIDE.trade, [0] * 3, [2] * 4)
        self.fails(BadHouse(4), merged, LONG.trade, [0] * 3, [2] * 2)
        self.assertSame(self.agrees(with_stand, trade=TIDE.trade, house=[2, 0], stand=1), (0, 1, 2))
        self.assertSame(with_stand(TIDE.trade, [1] * 5, 0), (0, 1, 1, 1, 1, 1))
        self.assertSame(with_stand(LONG.trade, [1] * 3, 7), (1, 1, 1, 7))
        self.fails(BadHouse(6), with_stand, TIDE.trade, [0] * 6, 1)
        self.fails(BadHouse(4), with_stand, LONG.trade, [0] * 4, 1)
        for value in no_stands(TIDE):
            self.fails(NoStand(value), with_stand, TIDE.trade, [0] * 6, value)

    def test_without_stand_and_one_less(self):
        self.assertSame(self.agrees(without_stand, trade=TIDE.trade, house=[2, 0, 0], stand=0), (0, 2))
        for value in no_stands(TIDE) + [1]:
            self.fails(NoStand(value), without_stand, TIDE.trade, [2, 0], value)
        self.fails(NoStand(True), without_stand, TIDE.trade, [1], True)
        for stands in itertools.product(range(3), repeat=3):
            told = {tuple(sorted(stands[:at] + stands[at + 1:])) for at in range(3)}
            self.assertSame(self.agrees(one_less, trade=TIDE.trade, house=list(stands)), tuple(sorted(told)))

    def test_is_bag_within(self):
        houses = [house for many in range(4) for house in itertools.product(range(3), repeat=many)]
        for house in houses:
            for other in houses:
                told = all(house.count(stand) <= other.count(stand) for stand in house)
                self.assertIs(is_bag_within(house, list(other)), told)
        self.assertIs(is_bag_within(house=[9], other=(9, 9, 9, 9)), True)
        self.fails(BadHouse(-1), is_bag_within, 5, None)
        self.fails(BadHouse(1), is_bag_within, [0], [0, 10])
        self.fails(BadHouse(6), is_bag_within, [0] * 7, ())
        self.fails(BadHouse(4), is_bag_within, [0], [9] * 5)
        self.fails(BadHouse(4), is_bag_within, [0], [6, 0, 0, 0, 0])
        self.assertIs(is_bag_within([5] * 6, [5] * 6), True)

    def test_all_houses_and_their_numbers(self):
        for spec, most in ((STILL, 6), (TIDE, 6), (LONG, 4), (ending_spec(random.Random(1), 10, "a"), 4)):
            for places in range(most + 1):
                every = tuple(itertools.combinations_with_replacement(range(spec.stands), places))
                self.assertSame(all_houses(trade=spec.trade, places=places), every)
                self.assertSame(house_count(trade=spec.trade, places=places), len(every))
                for number in (0, len(every) // 2, len(every) - 1):
                    house = numbered_house(trade=spec.trade, places=places, number=number)
                    self.assertSame(house, every[number])
                    self.assertSame(self.agrees(house_number, trade=spec.trade, house=list(house)[::-1]), number)
                for value in without_numbers() + [len(every), 10 ** 20]:
                    self.fails(BadHouse(-1), numbered_house, spec.trade, places, value)
            for value in without_numbers() + [most + 1, 10 ** 20]:
                self.fails(BadHouse(-1), all_houses, spec.trade, value)
                self.fails(BadHouse(-1), house_count, spec.trade, value)
                self.fails(BadHouse(-1), numbered_house, spec.trade, value, 0)
        self.assertSame(len(all_houses(ending_spec(random.Random(1), 6, "a").trade, 6)), 462)


if __name__ == "__main__":
    unittest.main()
