import itertools
import random
import unittest

from helpers import (ANY, CROSSED, JOINT, NO_SEQUENCES, NO_STRINGS, RING, ROOMS, SILENT, STILL, TIDE, Case, choices,
                     ending_spec, no_letters, no_stands, random_house, random_row, rueless_specs, specs)
from rueless.errors import BadHouse, BadRow, CannotTake, NoLetter, NoStand, NotRueless
from rueless.rows import can_serve, longest_served
from rueless.stewards import Steward, house_parting, house_within, lost_row, right_takers
from rueless.trades import Trade
from rueless.twos import Table
from rueless.verdict import first_clash, is_rueless

TOLD = [JOINT, RING, ROOMS, SILENT, STILL, TIDE]


def stewards(seed, many):
    for spec in rueless_specs(seed, many) + TOLD:
        yield spec, Steward(Table(spec.trade))


def slow_choice(spec, steward, stands, kind):
    kept = None
    for stand in sorted(set(stands)):
        if spec.ways[kind][stand] is None:
            continue
        if kept is None or steward.goes_ahead(kind, stand, kept):
            kept = stand
    return kept


class StewardTest(Case):
    def test_rueful_trades_are_refused(self):
        found = 0
        for spec in specs(55, 60, stands=(2, 3, 4)) + [CROSSED]:
            table = Table(spec.trade)
            if is_rueless(table):
                self.assertIs(Steward(table=table).table, table)
                self.assertIs(Steward(table).trade, spec.trade)
            else:
                found += 1
                self.fails(NotRueless(*first_clash(table)), Steward, table)
        self.assertGreater(found, 10)

    def test_what_goes_ahead(self):
        for spec, steward in stewards(56, 40):
            for kind in spec.kinds:
                pairs = []
                for p, q in itertools.product(range(spec.stands), repeat=2):
                    told = False
                    if p != q and spec.ways[kind][p] is not None and spec.ways[kind][q] is not None:
                        first, second = choices(spec, kind, p, q)
                        told = spec.parting(first, second) is not None and spec.parting(second, first) is None
                    self.assertIs(self.agrees(steward.goes_ahead, kind=kind, p=p, q=q), told)
                    pairs += [(p, q)] if told else []
                self.assertSame(self.agrees(steward.ahead_pairs, kind=kind), tuple(pairs))

    def test_choices(self):
        dice = random.Random(57)
        for spec, steward in stewards(58, 40):
            for _ in range(6):
                house = random_house(dice, spec, 4)
                stands = [dice.randrange(spec.stands) for _ in range(dice.randrange(9))]
                for kind in spec.kinds:
                    told = slow_choice(spec, steward, house, kind)
                    self.assertSame(self.agrees(steward.choice, house=list(house)[::-1], kind=kind), told)
                    self.assertSame(self.agrees(steward.set_choice, stands=stands, kind=kind),
                                    slow_choice(spec, steward, stands, kind))
                    self.assertSame(steward.set_choice(house * 3, kind), told)
                    for order in itertools.islice(itertools.permutations(sorted(set(house))), 6):
                        kept = None
                        for stand in order:
                            if spec.ways[kind][stand] is not None:
                                kept = stand if kept is None or steward.goes_ahead(kind, stand, kept) else kept
                        self.assertTrue(kept is None or kept in right_takers(steward, house, kind))

    def test_walks_against_all_servings(self):
        dice = random.Random(59)
        for spec, steward in stewards(60, 60):
            for _ in range(12):
                house, row = random_house(dice, spec, 4), random_row(dice, spec, 9)
                many = max(many for many in range(len(row) + 1) if spec.serves(house, row[:many]))
                now, serving = house, []
                for letter in row[:many]:
                    stand = slow_choice(spec, steward, now, letter) if letter in spec.kinds else None
                    serving += [] if stand is None else [stand]
                    now = dict(spec.choices(now, letter))[stand]
                mixed = list(house)[::-1]
                self.assertSame(self.agrees(steward.walk, house=mixed, row=row), (many, now))
                self.assertSame(self.agrees(steward.serving, house=mixed, row=row), tuple(serving))
                self.assertIs(self.agrees(steward.is_served, house=mixed, row=row), many == len(row))
                self.assertSame(longest_served(spec.trade, house, row), many)
                for letter in spec.letters:
                    behind = steward.walk(house, letter)
                    self.assertSame(self.agrees(steward.after, house=mixed, letter=letter),
                                    behind[1] if behind[0] else None)

    def test_the_house_of_no_places_and_long_rows(self):
        steward = Steward(Table(TIDE.trade))
        self.assertSame((steward.choice([], "a"), steward.set_choice((), "b")), (None, None))
        self.assertSame((steward.after((), "a"), steward.after([], "0")), (None, ()))
        self.assertSame((steward.walk([1, 0], ""), steward.walk([], "00a")), ((0, (0, 1)), (2, ())))
        row = "ab0" * 66 + "ab"
        self.assertSame(steward.walk([2, 2, 1, 0], row)[0], 200)
        self.assertSame(len(steward.serving([2, 2, 1, 0], row)), 134)
        spec = ending_spec(random.Random(61), 10, "a")
        self.assertSame(Steward(Table(spec.trade)).set_choice(list(range(10)) * 2, "a") in range(10), True)

    def test_wrong_values_in_order(self):
        steward = Steward(Table(ROOMS.trade))
        for value in NO_SEQUENCES:
            for call in (steward.choice, steward.after, steward.walk, steward.serving, steward.is_served):
                self.fails(BadHouse(-1), call, value, None)
                self.fails(BadHouse(1), call, [2, 3], None)
                self.fails(BadHouse(6), call, [2] * 7, None)
            self.fails(NoStand(value), steward.set_choice, value, "x")
        for value in no_stands(ROOMS):
            self.fails(NoStand(value), steward.set_choice, [0, value, 9], "x")
            self.fails(NoStand(value), steward.goes_ahead, "a", value, "x")
            self.fails(NoStand(value), steward.goes_ahead, "a", 2, value)
        for value in no_letters("ab"):
            for call in (steward.choice, steward.set_choice, steward.after):
                self.fails(NoLetter(value), call, [2], value)
            self.fails(NoLetter(value), steward.goes_ahead, value, "x", "x")
            self.fails(NoLetter(value), steward.ahead_pairs, value)
            self.fails(NoLetter(value), steward.set_choice, [], value)
            self.fails(NoLetter(value), steward.choice, (), value)
        for call in (steward.walk, steward.serving, steward.is_served):
            for value in NO_STRINGS:
                self.fails(BadRow(-1), call, [0], value)
            self.fails(BadRow(2), call, [2], "ab0")
            self.fails(BadRow(200), call, [2], "a" * 201)
        beaten = Steward(Table(TIDE.trade))
        for call in (beaten.choice, beaten.set_choice):
            self.fails(NoLetter("0"), call, [0], "0")
        self.fails(NoLetter("0"), beaten.ahead_pairs, "0")

    def test_objects_are_no_collections(self):
        self.assertRaises(TypeError, iter, Steward(Table(ROOMS.trade)))
        self.assertRaises(TypeError, len, Steward(Table(ROOMS.trade)))


class HousesTest(Case):
    def test_houses_within_one_another(self):
        dice = random.Random(62)
        found = set()
        for spec, steward in stewards(63, 50):
            for _ in range(6):
                house, other = random_house(dice, spec, 4), random_house(dice, spec, 4)
                told = {"steward": steward, "house": list(house)[::-1], "other": list(other)[::-1]}
                row = self.agrees(house_parting, **told)
                self.assertSame(row, spec.parting(house, other))
                self.assertIs(self.agrees(house_within, **told), row is None)
                found.add(row if row is None else len(row))
                slow = [one for one in spec.rows(3) if spec.serves(house, one) and not spec.serves(other, one)]
                self.assertEqual(slow[:1], [row] if row is not None and len(row) <= 3 else [])
        self.assertTrue({None, 1, 2, 3, 4} <= found)

    def test_rows_that_part_may_be_long(self):
        spec = Trade(6, {"a": [1, 2, 3, 4, 5, None]})
        steward = Steward(Table(spec))
        self.assertSame(house_parting(steward, [0] * 4, [0, 0, 0, 1]), "a" * 20)
        self.assertSame(house_parting(steward, [0, 0, 0, 1], [0] * 4), None)
        self.assertSame(house_parting(steward, [5], []), None)
        self.assertSame(house_parting(steward, [4], []), "a")

    def test_right_takers_and_lost_rows(self):
        dice = random.Random(64)
        lost = set()
        for spec, steward in stewards(65, 50):
            for _ in range(5):
                house = random_house(dice, spec, 4)
                for kind in spec.kinds:
                    ways = spec.choices(house, kind)
                    right = []
                    for stand, behind in ways:
                        rows = [spec.parting(other, behind) for _, other in ways]
                        rows = [row for row in rows if row is not None]
                        first = min(rows, key=lambda row: (len(row), [spec.letters.index(sign) for sign in row]),
                                    default=None)
                        told = self.agrees(lost_row, steward=steward, house=list(house)[::-1], kind=kind, stand=stand)
                        self.assertSame(told, first)
                        lost.add(told is None)
                        if told is None:
                            right.append(stand)
                        else:
                            self.assertTrue(spec.serves(house, kind + told) and not spec.serves(behind, told))
                    self.assertSame(self.agrees(right_takers, steward=steward, house=list(house)[::-1], kind=kind),
                                    tuple(right))
                    self.assertIn(steward.choice(house, kind), right or [None])
        self.assertEqual(lost, {True, False})

    def test_wrong_values_in_order(self):
        steward = Steward(Table(ROOMS.trade))
        for value in NO_SEQUENCES:
            for call in (house_within, house_parting):
                self.fails(BadHouse(-1), call, steward, value, None)
                self.fails(BadHouse(-1), call, steward, [0], value)
            self.fails(BadHouse(-1), right_takers, steward, value, None)
            self.fails(BadHouse(-1), lost_row, steward, value, None, None)
        for call in (house_within, house_parting):
            self.fails(BadHouse(0), call, steward, [3], [4])
            self.fails(BadHouse(1), call, steward, [0], [0, 4])
            self.fails(BadHouse(6), call, steward, [0], [0] * 7)
        for value in no_letters("ab"):
            self.fails(NoLetter(value), right_takers, steward, [2], value)
            self.fails(NoLetter(value), lost_row, steward, [2], value, "x")
        for value in ANY:
            if not (type(value) is int and value in (0, 1)):
                self.fails(CannotTake("a"), lost_row, steward, [0, 1, 2], "a", value)
        self.fails(CannotTake("b"), lost_row, steward, [0, 1], "b", 0)
        self.fails(CannotTake("a"), lost_row, steward, [0], "a", 1)
        self.assertSame(right_takers(steward, [2, 0], "b"), ())
        self.assertSame(right_takers(steward, (), "a"), ())
        for call, more in ((right_takers, ()), (lost_row, (1,))):
            self.fails(NoLetter("0"), call, Steward(Table(TIDE.trade)), [1], "0", *more)

    def test_a_ring_makes_no_difference(self):
        steward = Steward(Table(RING.trade))
        self.assertSame(right_takers(steward, (0, 1, 2), "a"), (0, 1, 2))
        self.assertSame((right_takers(steward, [1, 0], "a"), steward.choice([0, 1], "a")), ((1,), 1))
        self.assertIs(can_serve(RING.trade, [0, 1], "a" + lost_row(steward, [0, 1], "a", 0)), True)


if __name__ == "__main__":
    unittest.main()
