import itertools
import random
import unittest

from helpers import ANY, CROSSED, ROOMS, STILL, Case, Spec, bends, choices, fault_of, is_plain, random_row, without
from rueless.bills import check_price_story, check_prices, price_paper, price_story_paper
from rueless.errors import BadPrices, Refused, RuelessError
from rueless.houses import is_house
from rueless.prices import Prices, least_costs, once_prices, once_story, priced_moves
from rueless.slacks import PriceTable, price_clashes, price_sides, price_story
from rueless.trades import Trade
from test_slacks import CHEAP, cases

MOST = 10 ** 6


def sides_of(spec):
    return [(kind, p, q) for kind in spec.kinds for p, q in itertools.combinations(range(spec.stands), 2)
            if spec.ways[kind][p] is not None and spec.ways[kind][q] is not None]


def is_two(spec, value):
    return is_house(spec.trade, value) and len(value) == 2


def is_headed(spec, value, length):
    return (type(value) is tuple and len(value) == length and all(is_two(spec, one) for one in value[:2])
            and type(value[2]) is int and value[2] >= 0)


def slow_fault(spec, prices, value):
    """The number of the first fault of a paper of prices, None if there is none, by the words."""
    if type(value) is not tuple or not value or not is_plain(value[0]):
        return 0
    if value[0] == "priced" and len(value) == 3:
        return slow_priced_fault(spec, prices, value[1], value[2])
    if value[0] == "dear" and len(value) == 5:
        return slow_dear_fault(spec, prices, value[1:4], value[4])
    return 0


def slow_priced_fault(spec, prices, sides, rows):
    if type(sides) is not tuple or not is_plain(sides) or not all(type(side) is tuple for side in sides):
        return 0
    if [side[:3] for side in sides] != sides_of(spec) or type(rows) is not tuple:
        return 0
    if not all(len(side) == 4 and side[3] in ("first", "second", "both") for side in sides):
        return 0
    told = {}
    for row in rows[::-1]:
        if is_headed(spec, row, 4):
            told[row[:2]] = row[2]
    told.update({(x, x): 0 for x in itertools.combinations_with_replacement(range(spec.stands), 2)})
    for kind, p, q, word in sides:
        first, second = choices(spec, kind, p, q)
        more = prices.price(kind, q) - prices.price(kind, p)
        if word != "second" and told.get((second, first), more + 1) > more:
            return 0
        if word != "first" and told.get((first, second), 1 - more) > -more:
            return 0
    for number, row in enumerate(rows, 1):
        if not is_headed(spec, row, 4) or row[0] == row[1] or any(row[:2] == one[:2] for one in rows[:number - 1]):
            return number
        x, y, slack, answers = row
        asks = [(letter, x2, a) for letter in spec.letters for x2, a in priced_moves(prices, x, letter)]
        if type(answers) is not tuple or len(answers) != len(asks) or not is_plain(answers):
            return number
        for (letter, x2, a), answer in zip(asks, answers):
            if type(answer) is not tuple or len(answer) != 3 or answer[:2] != (letter, x2):
                return number
            moves = dict(priced_moves(prices, y, letter))
            if answer[2] not in moves or (x2, answer[2]) not in told:
                return number
            if moves[answer[2]] - a + told[x2, answer[2]] > slack:
                return number
    return None


def slow_dear_fault(spec, prices, clash, claims):
    if not is_plain(clash) or clash not in sides_of(spec) or type(claims) is not tuple:
        return 0
    kind, p, q = clash
    first, second = choices(spec, kind, p, q)
    more = prices.price(kind, q) - prices.price(kind, p)
    for pair, least in (((second, first), more), ((first, second), -more)):
        if least >= 0 and not any(type(row) is tuple and len(row) == 5 and is_plain(row[:3]) and row[:2] == pair
                                  and type(row[2]) is int and row[2] > least for row in claims):
            return 0
    for number, row in enumerate(claims, 1):
        if not is_headed(spec, row, 5) or row[2] < 1 or not is_plain(row) or row[3] not in list(spec.letters):
            return number
        x, y, least, letter, x2 = row
        moves = dict(priced_moves(prices, x, letter))
        if x2 not in moves:
            return number
        for y2, b in priced_moves(prices, y, letter):
            rest = least - b + moves[x2]
            if rest > 0 and not any(one[:2] == (x2, y2) and one[2] >= rest for one in claims[:number - 1]):
                return number
    return None


class PriceTest(Case):
    def test_told_papers(self):
        words = set()
        lengths = set()
        for dice, spec, prices, table in cases(960, 60):
            paper = self.agrees(price_paper, ptable=table)
            words.add(paper[0])
            clashes = price_clashes(table)
            self.assertIsNone(check_prices(spec.trade, prices.rows, paper))
            self.assertIsNone(check_prices(spec.trade, [list(row) for row in prices.rows], paper))
            self.assertIsNone(slow_fault(spec, prices, paper))
            if clashes:
                self.assertSame(paper[:4], ("dear",) + clashes[0])
                lengths.add(len(paper[4]))
                continue
            self.assertSame(paper[:2], ("priced", price_sides(table)))
            told = {}
            queue = []
            for kind, p, q, word in price_sides(table):
                first, second = choices(spec, kind, p, q)
                queue += {"both": [(first, second), (second, first)], "first": [(second, first)],
                          "second": [(first, second)]}[word]
            while queue:
                x, y = queue.pop()
                if x != y and (x, y) not in told:
                    told[x, y] = tuple((letter, x2, table.answer(x, y, letter, x2)[0])
                                       for letter in spec.letters for x2 in spec.moves(x, letter))
                    queue += [(x2, y2) for _, x2, y2 in told[x, y]]
            self.assertSame(paper[2], tuple((x, y, table.slack(x, y), told[x, y]) for x, y in sorted(told)))
        self.assertEqual(words, {"priced", "dear"})
        self.assertTrue({1, 2, 3} <= lengths, lengths)

    def test_other_papers(self):
        dice = random.Random(961)
        many = 0
        for _, spec, prices, table in cases(962, 40):
            paper = price_paper(table)
            if paper[0] == "dear":
                for clash in price_clashes(table)[1:]:
                    # Claims of all clashes together show each of them.
                    self.assertEqual(fault_of(check_prices, spec.trade, prices.rows, ("dear",) + clash + paper[4:]),
                                     slow_fault(spec, prices, ("dear",) + clash + paper[4:]))
                twice = paper[:4] + (paper[4] + paper[4],)
                self.assertIsNone(check_prices(spec.trade, prices.rows, twice))
                continue
            rows = list(paper[2])
            dice.shuffle(rows)
            self.assertIsNone(check_prices(spec.trade, prices.rows, paper[:2] + (tuple(rows),)))
            others = [(x, y) for x, y in itertools.permutations(table.houses, 2)
                      if table.slack(x, y) is not None and (x, y) not in [row[:2] for row in rows]]
            more = [(x, y, table.slack(x, y) + 3, tuple((letter, x2, table.answer(x, y, letter, x2)[0])
                     for letter in spec.letters for x2 in spec.moves(x, letter))) for x, y in others]
            alone = [row for row in more if all(x2 == y2 or (x2, y2) in [one[:2] for one in rows] for _, x2, y2 in row[3])]
            self.assertIsNone(check_prices(spec.trade, prices.rows, paper[:2] + (tuple(alone + rows),)))
            many += len(alone) > 0
        self.assertGreater(many, 5)
        prices = Prices(ROOMS.trade, {"a": (1, 5, None), "b": [None, 2, None]})
        rows = (((0, 2), (1, 2), 4, (("a", (2, 2), (2, 2)),)),)
        paper = price_paper(PriceTable(prices))
        self.assertSame(paper, ("priced", (("a", 0, 1, "first"),), rows))
        for slack, fault in [(3, 1), (4, None), (5, 0)]:
            bent = (((0, 2), (1, 2), slack, (("a", (2, 2), (2, 2)),)),)
            self.assertEqual(fault_of(check_prices, ROOMS.trade, prices.rows, paper[:2] + (bent,)), fault)

    def test_claims(self):
        prices = Prices(CHEAP.trade, {"a": [5, 1, None], "b": [None, 0, None]})
        paper = price_paper(PriceTable(prices))
        self.assertSame(paper, ("dear", "a", 0, 1, (((1, 2), (0, 2), 5, "b", (2, 2)),)))
        for number in (1, 4, 5, 6, MOST):
            bent = paper[:4] + ((((1, 2), (0, 2), number, "b", (2, 2)),),)
            self.assertEqual(fault_of(check_prices, CHEAP.trade, prices.rows, bent), None if number > 4 else 0)
        other = ("dear", "a", 0, 1, (((1, 2), (0, 2), 5, "a", (2, 2)),))
        self.assertEqual(fault_of(check_prices, CHEAP.trade, prices.rows, other), 1)
        # Both ways must be claimed where both prices are one.
        prices = Prices(CROSSED.trade, {"a": [1, None, None], "b": [None, 1, None], "c": [1, 1, None]})
        paper = price_paper(PriceTable(prices))
        self.assertEqual(len(paper[4]), 2)
        self.assertIsNone(check_prices(CROSSED.trade, prices.rows, paper[:4] + (paper[4][::-1],)))
        for claims in (paper[4][:1], paper[4][1:], ()):
            self.assertEqual(fault_of(check_prices, CROSSED.trade, prices.rows, paper[:4] + (claims,)), 0)

    def test_rows_that_are_faulty_by_their_houses(self):
        prices = Prices(ROOMS.trade, {"a": (1, 5, None), "b": [None, 2, None]})
        paper = price_paper(PriceTable(prices))
        row = paper[2][0]
        for more, fault in [(((2, 2), (0, 2), 0, ()), None), (((2, 2), (2, 2), 0, ()), 2), (((2, 2, 2), (0, 2, 2), 0, ()), 2),
                            (((2,), (0,), 0, ()), 2), (row, 2), (((2, 2), (2, 0), 0, ()), 2), (((2, 2), (0, 2), -1, ()), 2),
                            (((2, 2), (0, 2), None, ()), 2), (((2, 2), (0, 2), 0, (), ()), 2), (((2, 2), (0, 2), 0), 2)]:
            told = paper[:2] + ((row, more),)
            self.assertEqual(fault_of(check_prices, ROOMS.trade, prices.rows, told), fault, more)
        prices = Prices(CHEAP.trade, {"a": [5, 1, None], "b": [None, 0, None]})
        paper = price_paper(PriceTable(prices))
        claim = paper[4][0]
        for more, fault in [(claim, None), (claim[:2] + (3,) + claim[3:], None), (claim[:2] + (0,) + claim[3:], 2),
                            (((1, 2, 2), (0, 2, 2), 5, "b", (2, 2, 2)), 2), (((1,), (0,), 5, "b", (2,)), 2),
                            (((2, 2), (2, 2), 1, "b", (2, 2)), 2), (((1, 1), (0, 1), 5, "b", (1, 2)), None),
                            (((1, 1), (0, 1), 6, "b", (1, 2)), 2), (((1, 1), (0, 0), 1, "b", (1, 2)), None), (((1, 1), (0, 2), 1, "x", (1, 2)), 2)]:
            told = paper[:4] + ((claim, more),)
            self.assertEqual(fault_of(check_prices, CHEAP.trade, prices.rows, told), fault, more)

    def test_pairs_that_are_needed_twice(self):
        spec = Spec(3, {"a": [1, None, 1], "b": [None, None, None], "c": [2, 0, 0]}, {"0": [1, 0, 0]})
        prices = Prices(spec.trade, {"a": [2, None, 2], "b": [None, None, None], "c": [0, 1, 3]})
        paper = price_paper(PriceTable(prices))
        self.assertEqual(paper[:4], ("dear", "a", 0, 2))
        self.assertIsNone(check_prices(spec.trade, prices.rows, paper))
        # What was claimed by more stays claimed where less is claimed behind it.
        for at, (x, y, number, letter, x2) in enumerate(paper[4]):
            less = paper[4][:at + 1] + ((x, y, 1, letter, x2),) + paper[4][at + 1:]
            self.assertEqual(fault_of(check_prices, spec.trade, prices.rows, paper[:4] + (less,)),
                             slow_fault(spec, prices, paper[:4] + (less,)))

    def test_bent_papers(self):
        dice = random.Random(963)
        found = set()
        for _, spec, prices, table in cases(964, 40):
            paper = price_paper(table)
            for bent in bends(dice, paper, 60):
                fault = fault_of(check_prices, spec.trade, prices.rows, bent)
                self.assertEqual(fault, slow_fault(spec, prices, bent), (spec.ways, prices.rows, bent))
                found.add((paper[0], fault))
        for word in ("priced", "dear"):
            self.assertTrue({(word, None), (word, 0), (word, 1), (word, 2), (word, 3)} <= found, found)

    def test_values_of_other_kinds(self):
        for prices in (Prices(ROOMS.trade, {"a": (1, 5, None), "b": [None, 2, None]}),
                       Prices(ROOMS.trade, {"a": (5, 1, None), "b": [None, 2, None]})):
            paper = price_paper(PriceTable(prices))
            for value in ANY + [list(paper), paper[1:], ("price",) + paper[1:], paper + ((),)]:
                self.assertEqual(fault_of(check_prices, ROOMS.trade, prices.rows, value), 0)
            for at in range(1, len(paper)):
                for value in ANY:
                    bent = paper[:at] + (value,) + paper[at + 1:]
                    self.assertEqual(fault_of(check_prices, ROOMS.trade, prices.rows, bent), slow_fault(ROOMS, prices, bent))
                    bent = paper[:-1] + (paper[-1][:-1] + (paper[-1][-1][:at] + (value,) + paper[-1][-1][at + 1:],),)
                    self.assertEqual(fault_of(check_prices, ROOMS.trade, prices.rows, bent), slow_fault(ROOMS, prices, bent))
        self.assertIsNone(check_prices(STILL.trade, (), ("priced", (), ())))

    def test_wrong_rows_of_prices(self):
        for call in (check_prices, check_price_story):
            for value in without(ANY, lambda one: isinstance(one, (list, tuple)) and len(one) == 2) + [((1, 1, None),)]:
                self.fails(BadPrices(-1), call, ROOMS.trade, value, None)
            for value in ANY:
                self.fails(BadPrices(0), call, ROOMS.trade, (value, None), None)
                self.fails(BadPrices(1), call, ROOMS.trade, [(0, 1, None), value], None)


def is_story(spec, prices, told):
    kind, p, q, u, v = told
    sides = [(house, prices.price(kind, stand)) for house, stand in zip(choices(spec, kind, p, q), (p, q))]
    for row, ((one, price), (other, more)) in ((u, sides), (v, sides[::-1])):
        costs = [cost + price for _, cost in least_costs(prices, one, row)]
        rest = [cost + more for _, cost in least_costs(prices, other, row)]
        if not costs or (rest and min(rest) <= min(costs)):
            return False
    return True


def costs_of(spec, prices, told):
    kind, p, q, u, v = told
    return tuple(tuple(least_costs(prices, house, row[:at]) for at in range(len(row) + 1))
                 for row in (u, v) for house in choices(spec, kind, p, q))


def slow_story_fault(spec, prices, value):
    """The number of the first fault of a paper of a story, None if there is none."""
    try:
        if type(value) is not tuple or len(value) != 7 or not is_plain(value[:6]) or value[0] != "price story":
            return 0
        kind, p, q, u, v = value[1:6]
        if (kind, p, q) not in sides_of(spec) or not is_story(spec, prices, value[1:6]):
            return 0
    except (TypeError, ValueError, RuelessError):
        return 0
    costs = costs_of(spec, prices, value[1:6])
    if type(value[6]) is not tuple or len(value[6]) != 4:
        return 0
    faults = [at + 1 for at in range(4) if not is_plain(value[6][at]) or value[6][at] != costs[at]]
    return min(faults, default=None)


class StoryTest(Case):
    def test_told_and_other_papers(self):
        dice = random.Random(965)
        many = 0
        for _, spec, prices, table in cases(966, 70):
            if spec.stands > 4 or len(spec.kinds) > 3:
                continue
            story = price_story(prices)
            told = [] if story is None else [story]
            for clash in price_clashes(table):
                for _ in range(30):
                    other = clash + (random_row(dice, spec, 3), random_row(dice, spec, 3))
                    if is_story(spec, prices, other):
                        told.append(other)
                    else:
                        self.fails(Refused(0), price_story_paper, prices, other)
            many += len(told) > 1
            for one in told:
                paper = self.agrees(price_story_paper, prices=prices, story=one)
                self.assertSame(paper, ("price story",) + one + (costs_of(spec, prices, one),))
                self.assertIsNone(check_price_story(spec.trade, prices.rows, paper))
        self.assertGreater(many, 5)

    def test_values_that_are_no_story(self):
        prices = once_prices([[1, 2], [1, 3]])
        spec = Spec(3, {"a": [2, 2, None], "b": [2, 2, None]})
        self.assertSame(once_story([[1, 2], [1, 3]]), ("a", 0, 1, "", "b")[1:3] + ("a", "", "b"))
        story = ("a", 0, 1, "", "b")
        self.assertSame(price_story_paper(prices, story), ("price story",) + story + (costs_of(spec, prices, story),))
        for value in ANY + [list(story), story[:4], story + ("",), ("a", 1, 0, "b", ""), ("a", False, True, "", "b"),
                            ("a", 0, 2, "", "b"), ("c", 0, 1, "", "b"), ("a", 0, 1, "", "a"), ("a", 0, 1, "b", "b"),
                            ("a", 0, 1, None, "b"), ("a", 0, 1, "", "bb"), ("b", 0, 1, "", "b"), ("a", 0, 1, "", "b" * 201)]:
            self.fails(Refused(0), price_story_paper, prices, value)

    def test_numbers_of_faults(self):
        prices = once_prices([[1, 2], [1, 3]])
        trade, rows = prices.trade, prices.rows
        paper = price_story_paper(prices, ("a", 0, 1, "", "b"))
        costs = paper[6]
        self.assertSame([len(told) for told in costs], [1, 1, 2, 2])
        for at in range(4):
            faulty = [costs[at][:-1], costs[at] + ((),), list(costs[at])]
            for member in range(len(costs[at])):
                for told in (((((2, 2), 7),),), (None,), ((),), (list(costs[at][member]),), ((((2, 2), True),),)):
                    faulty.append(costs[at][:member] + told + costs[at][member + 1:])
            for told in faulty + without(ANY, lambda one: type(one) is tuple and one == costs[at]):
                bent = paper[:6] + (costs[:at] + (told,) + costs[at + 1:],)
                self.assertEqual(fault_of(check_price_story, trade, rows, bent), at + 1, bent)
                bent = paper[:6] + (costs[:at] + (told,) + (None,) * (3 - at),)
                self.assertEqual(fault_of(check_price_story, trade, rows, bent), at + 1, bent)
        for told in (costs[:3], costs + ((),), costs + (costs[0],), (), (None,) * 3, (None,) * 5, list(costs), None):
            self.assertEqual(fault_of(check_price_story, trade, rows, paper[:6] + (told,)), 0)
        for at, value in [(1, "b"), (2, 1), (3, 0), (4, "b"), (5, "a"), (4, None), (5, "bb"), (0, "story")]:
            self.assertEqual(fault_of(check_price_story, trade, rows, paper[:at] + (value,) + paper[at + 1:]), 0)

    def test_a_cost_of_many_entries_is_looked_at_whole(self):
        trade = Trade(3, {"b": [1, 2, None], "d": [1, 2, None]})
        prices = Prices(trade, {"b": [9, 2, None], "d": [7, 3, None]})
        story = price_story(prices)
        self.assertSame(story, ("d", 0, 1, "b", ""))
        paper = price_story_paper(prices, story)
        first, second, third, fourth = paper[6]
        self.assertSame([len(told) for told in paper[6]], [2, 2, 1, 1])
        bent = ((((0, 0), 5),),)
        for costs, fault in [
                ((first + ((),), second, third, fourth), 1), ((first[:1], second, third, fourth), 1),
                ((None, second, third, fourth), 1), ((first[:1] + bent, second, third, fourth), 1),
                ((first, second[:1] + bent, third, fourth), 2), ((first, bent + second[1:], bent, fourth), 2),
                ((first, second, bent, fourth), 3), ((first, second, third, bent), 4), (paper[6], None)]:
            self.assertEqual(fault_of(check_price_story, trade, prices.rows, paper[:6] + (costs,)), fault, costs)

    def test_bent_papers(self):
        dice = random.Random(967)
        found = set()
        for _, spec, prices, table in cases(968, 50):
            story = None if spec.stands > 4 else price_story(prices)
            if story is None:
                continue
            for bent in bends(dice, price_story_paper(prices, story), 40):
                fault = fault_of(check_price_story, spec.trade, prices.rows, bent)
                self.assertEqual(fault, slow_story_fault(spec, prices, bent), bent)
                found.add(fault)
        self.assertEqual(found, {None, 0, 1, 2, 3, 4})

    def test_values_of_other_kinds(self):
        prices = once_prices([[1, 2], [1, 3]])
        paper = price_story_paper(prices, ("a", 0, 1, "", "b"))
        for value in ANY + [list(paper), paper[:6], paper + ((),)]:
            self.assertEqual(fault_of(check_price_story, prices.trade, prices.rows, value), 0)
        for at in range(7):
            for value in without(ANY, lambda one: type(one) is type(paper[at]) and one == paper[at]):
                bent = paper[:at] + (value,) + paper[at + 1:]
                self.assertEqual(fault_of(check_price_story, prices.trade, prices.rows, bent), 0, bent)


if __name__ == "__main__":
    unittest.main()
