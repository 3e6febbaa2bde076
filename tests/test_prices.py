import itertools
import random
import unittest

from helpers import (ANY, CROSSED, NO_SEQUENCES, NO_STRINGS, RING, ROOMS, SILENT, STILL, TIDE, Case, deep, no_letters,
                     no_stands, random_house, random_row, specs, without)
from rueless.errors import BadHouse, BadPrices, BadRow, CannotTake, NoLetter, NoStand, Refused
from rueless.prices import (Prices, added_prices, cheapest_serving, least_costs, once_prices, once_story, paid_prices,
                            priced_moves, times_prices, with_toll)
from rueless.rows import plays
from rueless.slacks import PriceTable, is_price_rueless, price_story
from rueless.trades import Trade

TOLD = [CROSSED, RING, ROOMS, SILENT, STILL, TIDE]
MOST = 10 ** 6


def random_prices(dice, spec, most=9):
    """Prices as a dict, with small ones mostly."""
    top = dice.choice([1, 3, most])
    return {kind: [None if stand is None else dice.randrange(top + 1) for stand in spec.ways[kind]] for kind in spec.kinds}


def cases(seed, many, most=9):
    dice = random.Random(seed)
    for spec in specs(seed + 1, many, kinds=("", "a", "ab", "abc", "abcd")) + TOLD:
        told = random_prices(dice, spec, most)
        yield dice, spec, told, Prices(spec.trade, told)


def price_of(told, letter, stand):
    return 0 if stand is None else told[letter][stand]


def slow_costs(spec, told, house, row):
    """All (price, serving, house, prices on the way) of a row."""
    found = []
    for serving, houses in spec.servings(tuple(sorted(house)), row):
        paid = [0]
        stands = iter(serving)
        for letter in row:
            paid.append(paid[-1] + price_of(told, letter, next(stands) if letter in spec.kinds else None))
        found.append((paid[-1], serving, houses[-1], tuple(paid)))
    return found


class PricesTest(Case):
    def test_attributes(self):
        for dice, spec, told, prices in cases(930, 30):
            self.assertSame(prices.rows, tuple(tuple(told[kind]) for kind in spec.kinds))
            self.assertEqual(prices.trade, spec.trade)
            for kind in spec.kinds:
                for stand in range(spec.stands):
                    if spec.ways[kind][stand] is None:
                        self.fails(CannotTake(kind), prices.price, kind, stand)
                    else:
                        self.assertSame(self.agrees(prices.price, kind=kind, stand=stand), told[kind][stand])
            again = Prices(prices=dict(reversed(told.items())), trade=spec.trade)
            self.assertEqual(prices, again)
            self.assertIs(prices == again, True)
            for kind in spec.kinds:
                told[kind].append(7)
            self.assertEqual(prices, again)
            self.assertFalse(any(prices == value for value in ANY))
        self.assertNotEqual(Prices(STILL.trade, {}), Prices(SILENT.trade, {}))
        one = {"a": [1, None, None], "b": [None, 1, None], "c": [1, 1, None]}
        self.assertNotEqual(Prices(CROSSED.trade, one), Prices(CROSSED.trade, dict(one, a=[2, None, None])))
        self.assertNotEqual(Prices(CROSSED.trade, one), None)
        with self.assertRaises(TypeError):
            list(Prices(STILL.trade, {}))

    def test_wrong_prices(self):
        right = {"a": (0, MOST, None), "b": [None, 5, None]}
        self.assertSame(Prices(ROOMS.trade, right).rows, ((0, MOST, None), (None, 5, None)))
        for value in ANY:
            self.fails(BadPrices(-1), Prices, ROOMS.trade, value)
        for value in [{}, {"a": [0, 0, None]}, dict(right, c=[1, 1, 1]), {"a": right["a"], "B": right["b"]},
                      {"a": right["a"], 1: right["b"]}, {"a": right["a"], ("b",): right["b"]}]:
            self.fails(BadPrices(-1), Prices, ROOMS.trade, value)
        for value in ANY + [(0, 1), (0, 1, None, None), (0, None, None), (None, 1, None), (0, 1, 1), (0, MOST + 1, None),
                            (0, -1, None), (True, 1, None), (0, "1", None), "abc"]:
            self.fails(BadPrices(0), Prices, ROOMS.trade, {"b": None, "a": value})
        for value in ANY + [(1, 1, None), (None, None, None), (None, 10 ** 7, None)]:
            self.fails(BadPrices(1), Prices, ROOMS.trade, dict(right, b=value))
        self.assertSame(Prices(STILL.trade, {}).rows, ())
        self.fails(BadPrices(-1), Prices, STILL.trade, {"a": []})

    def test_wrong_values_of_price(self):
        prices = Prices(ROOMS.trade, {"a": (0, 3, None), "b": [None, 5, None]})
        for value in no_letters("ab"):
            self.fails(NoLetter(value), prices.price, value, None)
            self.fails(NoLetter(value), with_toll, prices, value, None)
        for value in no_stands(ROOMS):
            self.fails(NoStand(value), prices.price, "b", value)
        self.fails(CannotTake("b"), prices.price, "b", 0)

    def test_sums_and_multiples(self):
        for dice, spec, told, prices in cases(931, 30):
            more = random_prices(dice, spec)
            other = Prices(spec.trade, more)

            def changed(change):
                return Prices(spec.trade, {kind: [None if one is None else change(kind, stand, one)
                                                  for stand, one in enumerate(told[kind])] for kind in spec.kinds})

            self.assertEqual(added_prices(one=prices, other=other), changed(lambda kind, stand, one: one + more[kind][stand]))
            times = dice.randrange(5)
            self.assertEqual(times_prices(prices=prices, times=times), changed(lambda kind, stand, one: one * times))
            for letter in spec.kinds:
                self.assertEqual(with_toll(prices=prices, kind=letter, toll=times),
                                 changed(lambda kind, stand, one: one + times if kind == letter else one))
            self.assertSame(prices.rows, tuple(tuple(told[kind]) for kind in spec.kinds))

    def test_sums_that_are_too_great(self):
        one = Prices(ROOMS.trade, {"a": (0, 3, None), "b": [None, MOST, None]})
        two = Prices(ROOMS.trade, {"a": (MOST, MOST - 3, None), "b": [None, 0, None]})
        self.assertSame(added_prices(one, two).rows, ((MOST, MOST, None), (None, MOST, None)))
        self.fails(BadPrices(1), added_prices, one, one)
        self.fails(BadPrices(0), added_prices, two, two)
        self.fails(BadPrices(-1), added_prices, one, Prices(STILL.trade, {}))
        self.fails(BadPrices(1), times_prices, one, 2)
        self.fails(BadPrices(0), times_prices, one, MOST)
        self.assertSame(times_prices(one, 0).rows, ((0, 0, None), (None, 0, None)))
        self.fails(BadPrices(1), with_toll, one, "b", 1)
        self.assertSame(with_toll(one, "a", MOST - 3).rows, ((MOST - 3, MOST, None), (None, MOST, None)))
        self.fails(BadPrices(0), with_toll, one, "a", MOST - 2)
        for value in without(ANY, lambda told: type(told) is int and 0 <= told <= MOST) + [MOST + 1]:
            self.fails(Refused(value), times_prices, one, value)
            self.fails(Refused(value), with_toll, one, "a", value)


class CostsTest(Case):
    def test_moves(self):
        many = 0
        for dice, spec, told, prices in cases(932, 50):
            for _ in range(6):
                house = random_house(dice, spec)
                for letter in spec.letters:
                    least = {}
                    for stand, behind in spec.choices(house, letter):
                        price = price_of(told, letter, stand)
                        many += behind in least and least[behind] != price
                        least[behind] = min(price, least.get(behind, price))
                    moves = self.agrees(priced_moves, prices=prices, house=list(house)[::-1], letter=letter)
                    self.assertSame(moves, tuple(sorted(least.items())))
        self.assertGreater(many, 5)

    def test_rows(self):
        served = 0
        for dice, spec, told, prices in cases(933, 60):
            for _ in range(6):
                house, row = random_house(dice, spec), random_row(dice, spec, 5)
                ways = slow_costs(spec, told, house, row)
                least = {}
                for price, _, one, _ in ways:
                    least[one] = min(price, least.get(one, price))
                turned = list(house)[::-1]
                self.assertSame(self.agrees(least_costs, prices=prices, house=turned, row=row), tuple(sorted(least.items())))
                cheapest = self.agrees(cheapest_serving, prices=prices, house=turned, row=row)
                self.assertSame(cheapest, min(ways)[:2] if ways else None)
                for _, serving, _, paid in ways[:5]:
                    told_paid = self.agrees(paid_prices, prices=prices, house=turned, row=row, serving=list(serving))
                    self.assertSame(told_paid, paid)
                    served += len(serving) > 1
        self.assertGreater(served, 50)
        prices = Prices(ROOMS.trade, {"a": (MOST, 0, None), "b": [None, MOST, None]})
        self.assertSame(cheapest_serving(prices, [1, 0], "a"), (0, (1,)))
        self.assertSame(cheapest_serving(prices, [1, 0], "ab"), (2 * MOST, (0, 1)))
        self.assertSame((cheapest_serving(prices, [], "a"), least_costs(prices, (), "a")), (None, ()))
        self.assertSame((cheapest_serving(prices, [], ""), least_costs(prices, (), ""), paid_prices(prices, (), "", ())),
                        ((0, ()), (((), 0),), (0,)))

    def test_wrong_values_in_order(self):
        prices = Prices(TIDE.trade, {"a": [1, None, 2], "b": [0, 0, 5]})
        for value in NO_SEQUENCES:
            self.fails(BadHouse(-1), priced_moves, prices, value, None)
            for call in (least_costs, cheapest_serving):
                self.fails(BadHouse(-1), call, prices, value, None)
            self.fails(BadHouse(-1), paid_prices, prices, value, None, None)
        for value in no_letters("ab0"):
            self.fails(NoLetter(value), priced_moves, prices, (0,), value)
        for value in NO_STRINGS:
            for call in (least_costs, cheapest_serving):
                self.fails(BadRow(-1), call, prices, (0,), value)
            self.fails(BadRow(-1), paid_prices, prices, (0,), value, None)
        for call in (least_costs, cheapest_serving):
            self.fails(BadHouse(1), call, prices, (0, 3), "x")
            self.fails(BadRow(2), call, prices, (0,), "abc")
        for value in NO_SEQUENCES:
            self.fails(Refused(-1), paid_prices, prices, (0, 1), "b0a", value)
        for serving, at in [((), 0), ((0,), 2), ((0, 1), 2), ((True, 2), 0), ((0, 2, 1), 3), ((0, None), 2)]:
            self.fails(Refused(at), paid_prices, prices, (0, 1), "b0a", serving)
        self.assertSame(paid_prices(prices, (0, 1), "b0a", [0, 2]), (0, 0, 0, 2))
        self.assertEqual(len(plays(TIDE.trade, (0, 1), "b0a", [0, 2])), 4)


def slow_once(rows):
    """The story by the words of price_story, for two places alone."""
    for i, j in itertools.combinations(range(len(rows[0])), 2):
        for kind, row in enumerate(rows):
            def pay(told, first, rest):
                # What the kind and then a row of at most one letter pay, if the comer takes the first place.
                return row[first] + (rows[told][rest] if told is not None else 0)

            told = [None] + list(range(len(rows)))
            u = [one for one in told if pay(one, j, i) > pay(one, i, j)]
            v = [one for one in told if pay(one, i, j) > pay(one, j, i)]
            if u and v:
                return (i, j) + tuple(
                    "" if one is None else "abcd"[one] for one in (kind, u[0], v[0]))
    return None


class OnceTest(Case):
    def test_prices(self):
        prices = once_prices([[3, 1], (4, 1)])
        self.assertEqual(prices.trade, Trade(3, {"a": (2, 2, None), "b": (2, 2, None)}))
        self.assertSame(prices.rows, ((3, 1, None), (4, 1, None)))
        self.assertEqual(once_prices(((7,),)).trade, Trade(2, {"a": (1, None)}))

    def test_stories(self):
        dice = random.Random(934)
        found = set()
        for _ in range(400):
            places, kinds = dice.choice([1, 2, 2, 3, 5]), dice.choice([1, 2, 2, 3, 4])
            rows = [[dice.randrange(3) for _ in range(places)] for _ in range(kinds)]
            if dice.random() < 0.3:
                # The same differences for all kinds.
                rows = [[one + add for one in rows[0]] for add in range(kinds)]
            told = self.agrees(once_story, rows=rows)
            self.assertSame(told, slow_once(rows))
            found.add(None if told is None else told[3:])
            rueless = all(
                len({row[j] - row[i] for row in rows}) == 1 or (
                    len({row[j] - row[i] for row in rows}) == 2
                    and min(row[j] - row[i] for row in rows) <= 0 <= max(row[j] - row[i] for row in rows))
                for i, j in itertools.combinations(range(places), 2))
            self.assertIs(told is None, rueless)
        self.assertTrue({None, ("", "a"), ("a", ""), ("b", "")} <= found, found)

    def test_they_are_rueless_if_there_is_no_story(self):
        dice = random.Random(935)
        found = set()
        for _ in range(60):
            places, kinds = dice.choice([1, 2, 3]), dice.choice([1, 2, 3])
            rows = [[dice.randrange(3) for _ in range(places)] for _ in range(kinds)]
            rueless = is_price_rueless(PriceTable(once_prices(rows)))
            found.add(rueless)
            self.assertIs(once_story(rows) is None, rueless)
            self.assertIs(price_story(once_prices(rows)) is None, rueless)
        self.assertEqual(found, {True, False})

    def test_wrong_rows(self):
        for call in (once_prices, once_story):
            for value in without(ANY, lambda one: type(one) is tuple and one and type(one[0]) is tuple):
                self.fails(BadPrices(-1), call, value)
            self.fails(BadPrices(0), call, deep(0, 70))
            for value in [[[]], [[1] * 6], [[1]] * 5, [[1, 2], [1]], [[1], "a"], ["a"], [(1,), None], [(), ()]]:
                self.fails(BadPrices(-1), call, value)
            for value in without(ANY, lambda one: type(one) is int and 0 <= one <= MOST) + [MOST + 1]:
                self.fails(BadPrices(0), call, [[1, value], [value, 1]])
                self.fails(BadPrices(1), call, [[1, 2], (1, value), [None, 1]])


if __name__ == "__main__":
    unittest.main()
