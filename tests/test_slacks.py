import itertools
import random
import unittest

from helpers import (ANY, CROSSED, NO_SEQUENCES, NO_STRINGS, RING, ROOMS, SILENT, STILL, TIDE, Case, Spec, choices,
                     ending_spec, no_letters, no_stands, random_house, random_row, specs, without)
from rueless.errors import BadHouse, BadRow, CannotTake, NoLetter, NoStand, NotRueless, TooGreat
from rueless.houses import all_houses
from rueless.prices import Prices, added_prices, least_costs, once_prices, priced_moves, times_prices, with_toll
from rueless.slacks import (PriceSteward, PriceTable, is_price_rueless, price_clashes, price_sides, price_story,
                            right_sides)
from rueless.twos import Table
from rueless.verdict import clashes, is_rueless

TOLD = [CROSSED, RING, ROOMS, SILENT, STILL, TIDE]
# Rueless without prices, and not with them: the cheap room of a is the only one of b.
CHEAP = Spec(3, {"a": [2, 2, None], "b": [None, 2, None]})
# Never runs out; each round makes a slack greater by one.
ENDLESS = Spec(3, {"a": [0, 1, None], "b": [None, None, 2]})


def random_prices(dice, spec, top):
    return Prices(spec.trade, {kind: [None if stand is None else dice.randrange(top + 1) for stand in spec.ways[kind]]
                               for kind in spec.kinds})


def cases(seed, many, tops=(0, 1, 2, 9)):
    """Prices with their tables, but those whose slacks need too many rounds."""
    dice = random.Random(seed)
    found = specs(seed + 1, many, stands=(2, 3, 3, 4), kinds=("a", "ab", "abc"), beats=("", "0"), empty=0.5) + TOLD
    found += [ending_spec(dice, dice.choice([4, 5, 6]), dice.choice(["ab", "abc"]), dice.choice(["", "0"]))
              for _ in range(many // 4)]
    for spec in found:
        prices = random_prices(dice, spec, dice.choice(tops))
        try:
            yield dice, spec, prices, PriceTable(prices)
        except TooGreat:
            continue


def slow_rounds(spec, prices, most):
    """The slacks by round, up to the first round that changes none; None if that takes more rounds than most."""
    houses = list(itertools.combinations_with_replacement(range(spec.stands), 2))
    moves = {(house, letter): priced_moves(prices, house, letter) for house in houses for letter in spec.letters}
    bound = len(houses) ** 2 * max([one for row in prices.rows for one in row if one is not None], default=0)
    slacks = {(x, y): 0 for x in houses for y in houses}
    for done in range(1, most + 1):
        fresh = {}
        for x, y in slacks:
            worst = 0
            for letter in spec.letters:
                for x2, a in moves[x, letter]:
                    ways = [b - a + slacks[x2, y2] for y2, b in moves[y, letter] if slacks[x2, y2] is not None]
                    worst = None if worst is None or not ways else max(worst, min(ways))
            fresh[x, y] = 0 if x == y else None if worst is None or worst > bound else worst
        if fresh == slacks:
            return slacks, done
        slacks = fresh
    return None, None


def slow_side(spec, prices, slacks, kind, p, q):
    first, second = choices(spec, kind, p, q)
    more = prices.price(kind, q) - prices.price(kind, p)
    one, two = slacks[second, first], slacks[first, second]
    words = {(True, True): "both", (True, False): "first", (False, True): "second", (False, False): "none"}
    return words[one is not None and one <= more, two is not None and two <= -more]


def takers(spec, kind):
    return [stand for stand in range(spec.stands) if spec.ways[kind][stand] is not None]


class TableTest(Case):
    def test_slacks_and_sides(self):
        words = set()
        kinds = set()
        for dice, spec, prices, table in cases(940, 32):
            slacks, rounds = slow_rounds(spec, prices, 60)
            if slacks is None:
                continue
            self.assertEqual(table.prices, prices)
            self.assertEqual(table.trade, spec.trade)
            self.assertSame(table.houses, all_houses(spec.trade, 2))
            for x, y in slacks:
                turned = [list(x)[::-1], y]
                self.assertSame(self.agrees(table.slack, x=turned[0], y=turned[1]), slacks[x, y])
                kinds.add(type(slacks[x, y]))
            sides = []
            for kind in spec.kinds:
                for p, q in itertools.product(takers(spec, kind), repeat=2):
                    told = slow_side(spec, prices, slacks, kind, p, q)
                    words.add(told)
                    self.assertSame(self.agrees(table.side, kind=kind, p=p, q=q), told)
                    better = {"both": p, "first": p, "second": q, "none": None}[told]
                    self.assertSame(self.agrees(table.better, kind=kind, p=p, q=q), better)
                told = tuple((p, q, table.side(kind, p, q)) for p, q in itertools.combinations(takers(spec, kind), 2))
                self.assertSame(self.agrees(table.sides, kind=kind), told)
                sides += [(kind,) + side for side in told]
            self.assertSame(self.agrees(price_sides, ptable=table), tuple(sides))
            bad = tuple(side[:3] for side in sides if side[3] == "none")
            self.assertSame(self.agrees(price_clashes, ptable=table), bad)
            self.assertIs(self.agrees(is_price_rueless, ptable=table), bad == ())
            # The rounds are counted up to the first that changes nothing, and any more of them will do.
            again = PriceTable(prices, most=rounds)
            self.assertSame([again.slack(x, y) for x, y in slacks], list(slacks.values()))
            for most in {1, rounds - 1} - {0, rounds}:
                try:
                    again = PriceTable(prices, most=most)
                    self.assertSame([again.slack(x, y) for x, y in slacks], list(slacks.values()))
                except TooGreat as error:
                    self.assertEqual(error.most, most)
        self.assertEqual(words, {"both", "first", "second", "none"})
        self.assertEqual(kinds, {int, type(None)})

    def test_answers(self):
        found = set()
        for dice, spec, prices, table in cases(941, 25):
            for x, y in itertools.product(table.houses, repeat=2):
                for letter in spec.letters:
                    x2 = dice.choice(table.houses)
                    ways = [(b + table.slack(x2, y2), y2, b) for y2, b in priced_moves(prices, y, letter)
                            if table.slack(x2, y2) is not None] if x2 in spec.moves(x, letter) else []
                    told = min(ways)[1:] if ways else None
                    found.add((told is None, x2 in spec.moves(x, letter)))
                    got = self.agrees(table.answer, x=list(x)[::-1], y=y, letter=letter, x2=list(x2)[::-1])
                    self.assertSame(got, told)
        self.assertEqual(found, {(True, True), (True, False), (False, True)})

    def test_no_row_costs_more_than_the_slack(self):
        many = 0
        for dice, spec, prices, table in cases(942, 25):
            for _ in range(15):
                x, y, row = dice.choice(table.houses), dice.choice(table.houses), random_row(dice, spec, 6)
                costs = [[cost for _, cost in least_costs(prices, house, row)] for house in (x, y)]
                slack = table.slack(x, y)
                if costs[0] and slack is not None:
                    self.assertLessEqual(min(costs[1]), min(costs[0]) + slack)
                    many += len(row) > 1
        self.assertGreater(many, 40)

    def test_prices_all_0(self):
        for spec in specs(943, 30) + TOLD:
            prices = Prices(spec.trade, {kind: [None if one is None else 0 for one in spec.ways[kind]] for kind in spec.kinds})
            one, two = PriceTable(prices), Table(spec.trade)
            self.assertSame([one.sides(kind) for kind in spec.kinds], [two.sides(kind) for kind in spec.kinds])
            self.assertSame(price_clashes(one), clashes(two))
            self.assertIs(price_story(prices) is None, is_rueless(two))

    def test_rueful_prices_in_rueless_trades(self):
        found = set()
        for dice, spec, prices, table in cases(944, 60):
            found.add((is_price_rueless(table), is_rueless(Table(spec.trade))))
        self.assertEqual(found, {(True, True), (False, True), (False, False)})
        table = PriceTable(Prices(CHEAP.trade, {"a": [5, 1, None], "b": [None, 0, None]}))
        self.assertSame((price_clashes(table), table.slack((0, 2), (1, 2)), table.slack((1, 2), (0, 2))),
                        ((("a", 0, 1),), 0, None))
        table = PriceTable(Prices(CHEAP.trade, {"a": [1, 1, None], "b": [None, 9, None]}))
        self.assertSame((price_sides(table), table.slack((0, 1), (1, 1)), table.slack((0, 2), (1, 2))),
                        ((("a", 0, 1, "first"),), 0, 0))

    def test_rounds_without_end(self):
        # The rooms 0 and 1 stay free for a; what room 1 asks more adds up without an end.
        prices = Prices(ENDLESS.trade, {"a": [0, 1, None], "b": [None, None, 0]})
        table = PriceTable(prices)
        self.assertSame((table.slack((0, 2), (1, 2)), table.slack((1, 2), (0, 2))), (None, 0))
        self.fails(TooGreat(5), PriceTable, prices, most=5)
        self.assertSame(price_sides(table), (("a", 0, 1, "first"),))
        quick = PriceTable(Prices(STILL.trade, {}), most=1)
        self.assertSame((quick.slack((0, 0), (1, 1)), price_sides(quick)), (0, ()))

    def test_wrong_values_in_order(self):
        table = PriceTable(Prices(TIDE.trade, {"a": [1, None, 2], "b": [0, 0, 5]}))
        for value in NO_SEQUENCES:
            self.fails(BadHouse(-1), table.slack, value, None)
            self.fails(BadHouse(-1), table.slack, (0, 0), value)
            self.fails(BadHouse(-1), table.answer, value, None, None, None)
            self.fails(BadHouse(-1), table.answer, (0, 0), value, None, None)
            self.fails(BadHouse(-1), table.answer, (0, 0), (0, 1), "a", value)
        for house, at in [((0,), 1), ((0, 1, 2), 2), ((0, 3), 1), ((0, True), 1), (list(range(3)) * 3, 6)]:
            self.fails(BadHouse(at), table.slack, house, None)
            self.fails(BadHouse(at), table.answer, (0, 1), house, None, None)
            self.fails(BadHouse(at), table.answer, (0, 1), (0, 1), "a", house)
        for value in no_letters("ab0"):
            self.fails(NoLetter(value), table.answer, (0, 1), (0, 1), value, None)
        for value in no_letters("ab"):
            self.fails(NoLetter(value), table.side, value, None, None)
            self.fails(NoLetter(value), table.better, value, None, None)
            self.fails(NoLetter(value), table.sides, value)
        for value in no_stands(TIDE):
            for call in (table.side, table.better):
                self.fails(NoStand(value), call, "a", value, None)
                self.fails(NoStand(value), call, "a", 1, value)
        self.fails(CannotTake("a"), table.side, "a", 0, 1)
        self.fails(CannotTake("a"), table.better, "a", 1, 0)

    def test_right_sides(self):
        found = set()
        for dice, spec, prices, table in cases(945, 40):
            told = price_sides(table)
            for words in itertools.islice(itertools.product(["first", "second", "both", "none"], repeat=len(told)), 40):
                value = tuple(side[:3] + (word,) for side, word in zip(told, words))
                right = all(side[3] == "both" or word == side[3] for side, word in zip(told, words))
                right = right and set(words) <= {"first", "second"}
                found.add((right, len(told) > 1))
                self.assertIs(self.agrees(right_sides, ptable=table, value=value), right)
                if right and told:
                    for bent in (list(value), value[1:], value + value[:1], value[:-1] + (list(value[-1]),),
                                 value[:-1] + (value[-1] + (0,),), value[:-1] + (value[-1][:3],), value[::-1] + ((),)):
                        self.assertIs(right_sides(table, bent), False)
        self.assertEqual(found, {(True, True), (True, False), (False, True), (False, False)})
        table = PriceTable(Prices(ROOMS.trade, {"a": (1, 1, None), "b": [None, 5, None]}))
        self.assertIs(right_sides(table, (("a", 0, 1, "first"),)), True)
        for value in ANY + [(("a", False, 1, "first"),), (("a", 0, 1, "second"),), (("a", 0, 1, ["first"]),),
                            (("a", 1, 0, "second"),), (("a", 0, 1, "both"),)]:
            self.assertIs(right_sides(table, value), False)
        self.assertIs(right_sides(PriceTable(Prices(STILL.trade, {})), ()), True)
        self.assertIs(right_sides(PriceTable(Prices(STILL.trade, {})), []), False)

    def test_right_sides_stay_right(self):
        many = 0
        for dice, spec, prices, table in cases(946, 60):
            other = random_prices(dice, spec, 2)
            try:
                one, two = table, PriceTable(other)
                if not is_price_rueless(one) or not price_sides(one):
                    continue
                value = tuple(side[:3] + ("second" if side[3] == "second" else "first",) for side in price_sides(one))
                made = [times_prices(prices, 3), with_toll(prices, spec.kinds[0], 4)]
                if right_sides(two, value):
                    made.append(added_prices(prices, other))
                    many += 1
                for more in made:
                    self.assertIs(right_sides(PriceTable(more), value), True)
            except TooGreat:
                continue
        self.assertGreater(many, 5)


class StewardTest(Case):
    def test_it_pays_what_a_cheapest_serving_pays(self):
        many = 0
        for dice, spec, prices, table in cases(947, 60):
            if not is_price_rueless(table):
                self.fails(NotRueless(*price_clashes(table)[0]), PriceSteward, table)
                continue
            steward = PriceSteward(ptable=table)
            for _ in range(20):
                house, row = random_house(dice, spec), random_row(dice, spec, 6)
                served, behind, paid = self.agrees(steward.walk, house=list(house)[::-1], row=row)
                self.assertEqual(served, max(n for n in range(len(row) + 1) if spec.serves(house, row[:n])))
                self.assertSame(paid, min(cost for _, cost in least_costs(prices, house, row[:served])))
                now, total = house, 0
                for letter in row[:served]:
                    step = self.agrees(steward.after, house=list(now)[::-1], letter=letter)
                    now, total = step[0], total + step[1]
                self.assertSame((now, total), (behind, paid))
                if served < len(row):
                    self.assertIsNone(steward.after(now, row[served]))
                    self.assertIsNone(steward.choice(now, row[served]))
                many += served > 2
        self.assertGreater(many, 50)

    def test_choices(self):
        many = 0
        for dice, spec, prices, table in cases(948, 60):
            if not is_price_rueless(table):
                continue
            steward = PriceSteward(table)
            for _ in range(20):
                house, kind = random_house(dice, spec, 4), dice.choice(spec.kinds or "x")
                if kind == "x":
                    continue
                kept = None
                for stand in sorted({one for one in house if spec.ways[kind][one] is not None}):
                    if kept is None or table.side(kind, kept, stand) == "second":
                        kept = stand
                self.assertSame(self.agrees(steward.choice, house=list(house)[::-1], kind=kind), kept)
                if kept is not None:
                    behind = dict(spec.choices(house, kind))[kept]
                    self.assertSame(steward.after(house, kind), (behind, prices.price(kind, kept)))
                    many += 1
        self.assertGreater(many, 100)

    def test_wrong_values_in_order(self):
        steward = PriceSteward(PriceTable(Prices(ROOMS.trade, {"a": (1, 1, None), "b": [None, 5, None]})))
        for value in NO_SEQUENCES:
            self.fails(BadHouse(-1), steward.choice, value, None)
            self.fails(BadHouse(-1), steward.after, value, None)
            self.fails(BadHouse(-1), steward.walk, value, None)
        for value in no_letters("ab"):
            self.fails(NoLetter(value), steward.choice, (0, 1), value)
            self.fails(NoLetter(value), steward.after, (0, 1), value)
        for value in NO_STRINGS:
            self.fails(BadRow(-1), steward.walk, (0, 1), value)
        self.fails(BadRow(1), steward.walk, (0, 1), "ac")
        self.fails(BadRow(200), steward.walk, (0, 1), "a" * 201)
        self.assertSame(steward.walk((1, 0), "abb"), (2, (2, 2), 6))


def slow_story(spec, prices, most):
    """The story of fewest letters by trying all rows of at most so many letters for each clash, or None."""
    found = []
    for at, (kind, p, q) in enumerate(price_clashes(PriceTable(prices))):
        sides = [(house, price) for house, price in zip(choices(spec, kind, p, q), (prices.price(kind, p), prices.price(kind, q)))]
        rows = []
        for (house, price), (other, told) in (sides, sides[::-1]):
            for row in spec.rows(most):
                costs = [cost + price for _, cost in least_costs(prices, house, row)]
                rest = [cost + told for _, cost in least_costs(prices, other, row)]
                if costs and (not rest or min(costs) < min(rest)):
                    rows.append(row)
                    break
            else:
                break
        if len(rows) == 2:
            found.append((len(rows[0]) + len(rows[1]), at, (kind, p, q) + tuple(rows)))
    return min(found)[2] if found else None


class StoryTest(Case):
    def test_stories(self):
        lengths = set()
        late = 0
        for dice, spec, prices, table in cases(949, 300, tops=(0, 1, 2, 5)):
            if spec.stands > 4 or len(spec.kinds) > 3:
                continue
            told = self.agrees(price_story, prices=prices)
            self.assertIs(told is None, is_price_rueless(table))
            slow = slow_story(spec, prices, 3)
            if told is not None and max(len(told[3]), len(told[4])) <= 3:
                self.assertSame(told, slow)
                lengths.add(len(told[3]) + len(told[4]))
                late += told[:3] != price_clashes(table)[0]
            elif told is not None and slow is not None:
                order = [(len(one[3] + one[4]), price_clashes(table).index(one[:3])) for one in (told, slow)]
                self.assertLess(order[0], order[1])
        self.assertTrue({0, 1, 2, 3} - {0} <= lengths, lengths)
        self.assertGreater(late, 0)

    def test_places_taken_once(self):
        self.assertSame(price_story(once_prices([[1, 2], [1, 3]])), ("a", 0, 1, "", "b"))
        self.assertSame(price_story(once_prices([[1, 2], [1, 1]])), None)
        self.assertSame(price_story(once_prices([[1, 2], [1, 1], [3, 1]])), ("b", 0, 1, "c", "a"))

    def test_a_row_that_is_not_served(self):
        prices = Prices(CROSSED.trade, {"a": [9, None, None], "b": [None, 0, None], "c": [1, 3, None]})
        self.assertSame(price_story(prices), ("c", 0, 1, "", "a"))

    def test_most(self):
        many = 0
        for dice, spec, prices, table in cases(950, 30):
            told = price_story(prices)
            pairs = pairs_of_costs(spec, prices, table, 300)
            if pairs <= 300:
                self.assertSame(price_story(prices, most=max(1, pairs)), told)
            for most in (1, 2, 3, 5, 8, 20):
                try:
                    self.assertSame(price_story(prices, most=most), told)
                except TooGreat as error:
                    self.assertEqual(error.most, most)
                    self.assertGreater(pairs_of_costs(spec, prices, table, most), most)
                    many += 1
        self.assertGreater(many, 3)

    def test_too_many_rounds(self):
        spec = Spec(4, {"a": [0, 1, None, None], "b": [None, None, 2, 3]})
        prices = Prices(spec.trade, {"a": [0, 1, None, None], "b": [None, None, 0, 9 * 10 ** 5]})
        self.fails(TooGreat(2000), price_story, prices)
        self.fails(TooGreat(2000), PriceTable, prices)


def pairs_of_costs(spec, prices, table, most):
    """How many pairs of least costs there are, in all clashes; no more are looked for than one above most."""
    found = set()
    for kind, p, q in price_clashes(table):
        first, second = choices(spec, kind, p, q)
        queue = [""]
        while queue and len(found) <= most:
            row = queue.pop(0)
            costs = [least_costs(prices, house, row) for house in (first, second)]
            numbers = [cost for told in costs for _, cost in told]
            base = min(numbers, default=0)
            key = (kind, p, q) + tuple(tuple((house, cost - base) for house, cost in told) for told in costs)
            if key not in found:
                found.add(key)
                queue += [row + letter for letter in spec.letters]
    return len(found)


if __name__ == "__main__":
    unittest.main()
