import random
import unittest

from helpers import Case
from rueless.relations import Relation


def random_ways(dice, many, letters, chance):
    return tuple(tuple(tuple(item for item in range(many) if dice.random() < chance) for _ in range(many))
                 for _ in range(letters))


def slow_ranks(many, asks, answers, start):
    """Ranks by the words of the document, round by round."""
    ranks = {(x, y): 0 for x in range(many) for y in range(many) if start is not None and not start[x][y]}
    rounds = 0
    while True:
        rounds += 1
        found = [(x, y) for x in range(many) for y in range(many) if (x, y) not in ranks and any(
            all((x2, y2) in ranks for y2 in answers[letter][y])
            for letter in range(len(asks)) for x2 in asks[letter][x])]
        if not found:
            return ranks
        ranks.update({pair: rounds for pair in found})


def cases(seed, times):
    dice = random.Random(seed)
    for _ in range(times):
        many, letters = dice.randrange(7), dice.randrange(4)
        chance = dice.choice([0.15, 0.3, 0.5])
        asks = random_ways(dice, many, letters, chance)
        answers = random_ways(dice, many, letters, dice.choice([0.3, 0.6])) if dice.random() < 0.5 else None
        start = None
        if dice.random() < 0.5:
            start = tuple(tuple(dice.random() < 0.8 for _ in range(many)) for _ in range(many))
        yield many, asks, answers, start


class RelationTest(Case):
    def test_against_the_words(self):
        for many, asks, answers, start in cases(27, 150):
            told = asks if answers is None else answers
            ranks = slow_ranks(many, asks, told, start)
            relation = Relation(many, asks, answers=answers, start=start)
            self.assertSame(relation.rounds, max(ranks.values(), default=0))
            pairs = [(x, y) for x in range(many) for y in range(many)]
            self.assertSame(relation.pairs(), tuple(pair for pair in pairs if pair not in ranks))
            for x, y in pairs:
                self.assertIs(relation.holds(x=x, y=y), (x, y) not in ranks)
                self.assertSame(relation.rank(x=x, y=y), ranks.get((x, y)))
                self.assertSame(relation.strike(x=x, y=y), self.slow_strike(asks, told, ranks, x, y))
                for letter in range(len(asks)):
                    holding = [y2 for y2 in told[letter][y] if (x, y2) not in ranks]
                    self.assertSame(relation.answer(y=y, letter=letter, x2=x), min(holding, default=None))

    def slow_strike(self, asks, answers, ranks, x, y):
        rank = ranks.get((x, y))
        for letter in range(len(asks) if rank else 0):
            for x2 in asks[letter][x]:
                if all(ranks.get((x2, y2), rank) < rank for y2 in answers[letter][y]):
                    return (letter, x2)
        return None

    def test_needed_and_strikes(self):
        dice = random.Random(28)
        for many, asks, answers, start in cases(29, 150):
            told = asks if answers is None else answers
            ranks = slow_ranks(many, asks, told, start)
            relation = Relation(many, asks, answers=answers, start=start)
            pairs = [(x, y) for x in range(many) for y in range(many)]
            holding = [pair for pair in pairs if pair not in ranks and dice.random() < 0.4]
            failing = [pair for pair in pairs if pair in ranks and dice.random() < 0.4]
            for wanted in (holding, holding[::-1] + holding, [list(pair) for pair in holding]):
                self.assertSame(self.agrees(relation.needed, wanted=wanted),
                                self.slow_needed(relation, asks, holding))
            for wanted in (failing, failing[::-1] + failing, [list(pair) for pair in failing]):
                self.assertSame(self.agrees(relation.strikes, wanted=wanted),
                                self.slow_strikes(relation, told, ranks, failing))

    def slow_needed(self, relation, asks, wanted):
        met = {pair for pair in wanted if pair[0] != pair[1]}
        while True:
            more = {(x2, relation.answer(y, letter, x2)) for x, y in met for letter in range(len(asks))
                    for x2 in asks[letter][x]}
            more = {pair for pair in more if pair[0] != pair[1]} | met
            if more == met:
                return tuple(sorted(met))
            met = more

    def slow_strikes(self, relation, answers, ranks, wanted):
        met = set(wanted)
        while True:
            more = set(met)
            for x, y in met:
                if ranks[(x, y)] > 0:
                    letter, x2 = relation.strike(x, y)
                    more |= {(x2, y2) for y2 in answers[letter][y]}
            if more == met:
                break
            met = more
        rows = [(ranks[pair],) + pair + relation.strike(*pair) for pair in met if ranks[pair] > 0]
        return tuple(row[1:] for row in sorted(rows))

    def test_no_items_and_no_letters(self):
        none = Relation(0, ())
        self.assertSame((none.pairs(), none.rounds, none.needed([]), none.strikes(())), ((), 0, (), ()))
        self.assertSame(Relation(0, ((),), answers=((),), start=()).pairs(), ())
        still = Relation(2, (), start=((True, False), (True, True)))
        self.assertSame((still.pairs(), still.rounds, still.rank(0, 1)), (((0, 0), (1, 0), (1, 1)), 0, 0))
        self.assertSame((still.strike(0, 1), still.strikes([(0, 1)])), (None, ()))

    def test_a_told_relation(self):
        asks = (((1,), (2,), ()),)
        relation = Relation(many=3, asks=asks)
        self.assertSame(relation.pairs(), ((0, 0), (1, 0), (1, 1), (2, 0), (2, 1), (2, 2)))
        self.assertSame((relation.rank(0, 1), relation.rank(0, 2), relation.rounds), (2, 1, 2))
        self.assertSame(relation.strikes([(0, 1)]), ((1, 2, 0, 2), (0, 1, 0, 1)))
        self.assertSame(relation.needed([(1, 0), (0, 0)]), ((1, 0), (2, 1)))
        self.assertSame(Relation(2, (((0,), ()),), answers=(((), ()),)).pairs(), ((1, 0), (1, 1)))

    def test_many_items(self):
        dice = random.Random(30)
        asks = random_ways(dice, 75, 6, 0.05)
        relation = Relation(75, asks)
        self.assertEqual(len(slow_ranks(75, asks, asks, None)) + len(relation.pairs()), 75 * 75)


if __name__ == "__main__":
    unittest.main()
