import itertools
import random
import unittest

from helpers import (ANY, CROSSED, JOINT, NO_SEQUENCES, RING, ROOMS, SILENT, STILL, TIDE, Case, Spec, choices, no_letters,
                     random_house, rueless_specs, specs)
from rueless.errors import BadHouse, BadRanking, NoLetter, Refused, TooGreat
from rueless.rankings import (count_rankings, first_ranking, first_ring, joint_paper, joint_ranking, joint_ring,
                              judged_ranking, loss_paper, nth_ranking, ranked_choice, ranking_loss, ranking_number,
                              ranking_paper)
from rueless.stewards import Steward
from rueless.twos import Table

TOLD = [JOINT, RING, ROOMS, SILENT, STILL, TIDE]


def takers(spec, kind):
    return [stand for stand in range(spec.stands) if spec.ways[kind][stand] is not None]


def parting_of(spec, kind, p, q):
    """The first row that p and q serve behind giving the kind to q, and not if it is given to p."""
    first, second = choices(spec, kind, p, q)
    return spec.parting(second, first)


def slow_loss(spec, kind, ranking):
    for p, q in itertools.combinations(ranking, 2):
        row = parting_of(spec, kind, p, q)
        if row is not None:
            return (p, q, row)
    return None


def stewards(seed, many):
    for spec in rueless_specs(seed, many) + TOLD:
        yield spec, Steward(Table(spec.trade))


def ranking_faults(stands):
    """(value, at) for values that are no ranking of these stands."""
    for value in NO_SEQUENCES:
        yield value, -1
    for value in ANY:
        if not (type(value) is int and value in stands):
            yield [value], 0
            yield stands[:1] + [value, "x"], len(stands[:1])
    for many in range(len(stands)):
        yield tuple(stands[:many]), many
        yield stands[:many + 1] + stands[:1], many + 1
        yield stands[:many] + [9], many
    yield stands + [9], len(stands)


class RankingTest(Case):
    def test_all_rankings_of_a_kind(self):
        counts = set()
        for spec, steward in stewards(67, 40):
            for kind in spec.kinds:
                every = list(itertools.permutations(takers(spec, kind)))
                right = []
                for ranking in every:
                    loss = slow_loss(spec, kind, ranking)
                    self.assertSame(self.agrees(ranking_loss, steward=steward, kind=kind, ranking=list(ranking)), loss)
                    self.assertSame(self.agrees(judged_ranking, table=steward.table, kind=kind, ranking=list(ranking),
                                                most=20000), loss)
                    right += [ranking] if loss is None else []
                counts.add(len(right))
                self.assertSame(self.agrees(first_ranking, steward=steward, kind=kind), right[0] if right else None)
                self.assertSame(self.agrees(count_rankings, steward=steward, kind=kind), len(right))
                for number, ranking in enumerate(right):
                    self.assertSame(self.agrees(nth_ranking, steward=steward, kind=kind, number=number), ranking)
                for number in (len(right), len(right) + 1, 10 ** 20):
                    self.assertIsNone(nth_ranking(steward, kind, number))
                for ranking in every:
                    number = right.index(ranking) if ranking in right else None
                    self.assertSame(self.agrees(ranking_number, steward=steward, kind=kind, ranking=list(ranking)), number)
                self.assertEqual(self.agrees(first_ring, steward=steward, kind=kind) is None, bool(right))
        self.assertTrue({0, 1, 2, 3, 6} <= counts)

    def test_rankings_in_houses_of_more_places(self):
        dice = random.Random(68)
        for spec, steward in stewards(69, 40):
            house = random_house(dice, spec, 4)
            for kind in spec.kinds:
                for ranking in itertools.permutations(takers(spec, kind)):
                    there = [stand for stand in ranking if stand in house]
                    told = self.agrees(ranked_choice, trade=spec.trade, house=list(house)[::-1], kind=kind,
                                       ranking=list(ranking))
                    self.assertSame(told, there[0] if there else None)
                    if there and ranking_loss(steward, kind, ranking) is None:
                        ways = dict(spec.choices(house, kind))
                        for other in ways.values():
                            self.assertIsNone(spec.parting(other, ways[told]))

    def test_wrong_values_in_order(self):
        for spec in (ROOMS, RING, SILENT, STILL):
            table = Table(spec.trade)
            steward = Steward(table)
            with_ranking = [(ranking_loss, steward, {}), (ranking_number, steward, {}), (judged_ranking, table, {}),
                            (loss_paper, table, {}), (judged_ranking, table, {"most": 1})]
            for value in no_letters(spec.kinds):
                for call, first, more in with_ranking:
                    self.fails(NoLetter(value), call, first, value, "x", **more)
                self.fails(NoLetter(value), ranked_choice, spec.trade, [0], value, "x")
                for call in (first_ranking, count_rankings, first_ring, ranking_paper):
                    self.fails(NoLetter(value), call, steward, value)
                self.fails(NoLetter(value), nth_ranking, steward, value, "x")
            for kind in spec.kinds:
                for value, at in ranking_faults(takers(spec, kind)):
                    for call, first, more in with_ranking:
                        self.fails(BadRanking(at), call, first, kind, value, **more)
                    self.fails(BadRanking(at), ranked_choice, spec.trade, [0], kind, value)
                for value in ANY:
                    if not (type(value) is int and value >= 0):
                        self.fails(Refused(0), nth_ranking, steward, kind, value)
        for value in NO_SEQUENCES:
            self.fails(BadHouse(-1), ranked_choice, ROOMS.trade, value, "x", None)
        self.fails(BadHouse(1), ranked_choice, ROOMS.trade, [0, 3], "x", None)
        self.fails(NoLetter("0"), ranked_choice, TIDE.trade, [0], "0", ())

    def test_a_kind_that_nobody_takes(self):
        spec = Spec(2, {"a": [None, None], "b": [0, 1]})
        steward = Steward(Table(spec.trade))
        self.assertSame((first_ranking(steward, "a"), count_rankings(steward, "a"), nth_ranking(steward, "a", 0)),
                        ((), 1, ()))
        self.assertSame((ranking_number(steward, "a", []), ranking_loss(steward, "a", ()), first_ring(steward, "a")),
                        (0, None, None))
        self.assertSame((ranked_choice(spec.trade, [0], "a", []), ranking_paper(steward, "a")),
                        (None, ("ranking", "a", (), ())))
        self.fails(BadRanking(0), ranking_loss, steward, "a", [0])

    def test_told_rankings(self):
        steward = Steward(Table(ROOMS.trade))
        self.assertSame((first_ranking(steward, "a"), count_rankings(steward, "a")), ((0, 1), 1))
        self.assertSame(ranking_loss(steward, "a", [1, 0]), (1, 0, "b"))
        self.assertSame(ranking_paper(steward, "a"), ("ranking", "a", (0, 1), (((0, 2), (1, 2)),)))
        self.assertSame(loss_paper(steward.table, "a", [1, 0]), ("ranking loss", "a", (1, 0), 1, 0, "b"))
        self.assertSame(loss_paper(steward.table, "a", (0, 1)), None)


class RingTest(Case):
    def test_rings(self):
        found = set()
        for spec, steward in stewards(70, 150):
            for kind in spec.kinds:
                pairs = steward.ahead_pairs(kind)
                rings = [ring for many in range(2, spec.stands + 1) for ring in itertools.permutations(takers(spec, kind), many)
                         if ring[0] == min(ring) and all(step in pairs for step in zip(ring, ring[1:] + ring[:1]))]
                told = first_ring(steward, kind)
                self.assertSame(told, rings[0] if rings else None)
                found.add(told if told is None else len(told))
        self.assertTrue({None, 3} <= found)
        self.assertSame(first_ring(Steward(Table(RING.trade)), "a"), (0, 2, 1))

    def test_joint_rankings_and_rings(self):
        found = set()
        for spec, steward in stewards(71, 80):
            stands = sorted({stand for kind in spec.kinds for stand in takers(spec, kind)})
            ahead = {kind: steward.ahead_pairs(kind) for kind in spec.kinds}
            right = [order for order in itertools.permutations(stands) if all(
                slow_loss(spec, kind, [stand for stand in order if stand in takers(spec, kind)]) is None
                for kind in spec.kinds)]
            told = self.agrees(joint_ranking, steward=steward)
            self.assertSame(told, right[0] if right else None)
            steps = [(stand, kind) for stand in stands for kind in spec.kinds if stand in takers(spec, kind)]
            rings = []
            for many in range(2, len(stands) + 1):
                rings = rings or [ring for ring in itertools.permutations(steps, many) if ring[0] == min(ring) and all(
                    (p, q) in ahead[kind] for (p, kind), (q, _) in zip(ring, ring[1:] + ring[:1]))]
            ring = self.agrees(joint_ring, steward=steward)
            self.assertSame(ring, rings[0] if rings else None)
            self.assertEqual(ring is None, told is not None)
            found.add(ring if ring is None else len(ring))
        self.assertTrue({None, 2, 3} <= found)
        self.assertSame(joint_ring(Steward(Table(JOINT.trade))), ((1, "a"), (2, "b")))
        self.assertSame(joint_ranking(Steward(Table(SILENT.trade))), ())
        spec = Spec(3, {"a": [2, 2, 2], "b": [0, 0, 0], "c": [0, None, 2], "d": [1, 1, 2]}, {"0": [2, 0, 1]})
        self.assertSame(joint_ring(Steward(Table(spec.trade))), ((0, "b"), (1, "d")))


class JudgedTest(Case):
    def test_any_trade(self):
        dice = random.Random(72)
        found = set()
        for spec in specs(73, 60, stands=(2, 3, 4)) + [CROSSED]:
            table = Table(spec.trade)
            for kind in spec.kinds:
                every = list(itertools.permutations(takers(spec, kind)))
                for ranking in dice.sample(every, min(6, len(every))):
                    loss = slow_loss(spec, kind, ranking)
                    told = self.agrees(judged_ranking, table=table, kind=kind, ranking=list(ranking), most=20000)
                    self.assertSame(told, loss)
                    self.assertSame(judged_ranking(table, kind, ranking), loss)
                    paper = self.agrees(loss_paper, table=table, kind=kind, ranking=list(ranking), most=20000)
                    self.assertSame(paper, loss and ("ranking loss", kind, ranking) + loss)
                    found.add(loss is None)
        self.assertEqual(found, {True, False})
        self.assertSame(judged_ranking(Table(CROSSED.trade), "c", [0, 1]), (0, 1, "a"))
        self.assertSame(judged_ranking(Table(CROSSED.trade), "c", [1, 0]), (1, 0, "b"))

    def test_most(self):
        refused = set()
        for spec in specs(74, 120, stands=(3,), empty=0.3):
            table = Table(spec.trade)
            for kind in spec.kinds:
                ranking = takers(spec, kind)
                self.check_most(spec, table, kind, ranking, refused)
        self.assertEqual(refused, {True, False})

    def check_most(self, spec, table, kind, ranking, refused):
        """TooGreat comes only if there are more pairs of fronts than that; other answers are right."""
        loss = slow_loss(spec, kind, ranking)
        counted = list(itertools.combinations(ranking, 2))
        counted = counted[:counted.index(loss[:2]) + 1] if loss else counted
        greatest = max([self.pairs_of_fronts(spec, kind, p, q) for p, q in counted], default=1)
        for most in (1, 2, 3, greatest - 1, greatest, greatest + 1):
            if most < 1:
                continue
            try:
                told = judged_ranking(table, kind, ranking, most=most)
            except TooGreat as error:
                self.assertEqual(error.most, most)
                self.assertLess(most, greatest)
                self.fails(TooGreat(most), loss_paper, table, kind, ranking, most=most)
                refused.add(True)
            else:
                self.assertSame(told, loss)
                refused.add(False)

    def pairs_of_fronts(self, spec, kind, p, q):
        first, second = choices(spec, kind, p, q)
        met, fresh = set(), {((second,), (first,))}
        while fresh:
            met |= fresh
            behind = {tuple(tuple(sorted({move for one in front for move in spec.moves(one, letter)})) for front in pair)
                      for pair in fresh for letter in spec.letters}
            fresh = {pair for pair in behind if pair[0] and pair[1]} - met
        return len(met)


class RankingPaperTest(Case):
    def test_papers_as_told(self):
        words = set()
        for spec, steward in stewards(75, 80):
            table = steward.table
            for kind in spec.kinds:
                paper = self.agrees(ranking_paper, steward=steward, kind=kind)
                words.add(paper[0])
                ranking = first_ranking(steward, kind)
                if ranking is not None:
                    told = self.needed(table, [choices(spec, kind, p, q) for p, q in itertools.combinations(ranking, 2)])
                    self.assertSame(paper, ("ranking", kind, ranking, told))
                else:
                    ring = first_ring(steward, kind)
                    rows = tuple(parting_of(spec, kind, q, p) for p, q in zip(ring, ring[1:] + ring[:1]))
                    self.assertSame(paper, ("ring", kind, ring, rows))
            paper = self.agrees(joint_paper, steward=steward)
            words.add(paper[0])
            ranking = joint_ranking(steward)
            if ranking is not None:
                ways = [choices(spec, kind, p, q) for kind in spec.kinds for p, q in itertools.combinations(
                    [stand for stand in ranking if stand in takers(spec, kind)], 2)]
                self.assertSame(paper, ("joint ranking", ranking, self.needed(table, ways)))
            else:
                ring = joint_ring(steward)
                rows = tuple(parting_of(spec, kind, q, p) for (p, kind), (q, _) in zip(ring, ring[1:] + ring[:1]))
                self.assertSame(paper, ("joint ring", ring, rows))
        self.assertEqual(words, {"ranking", "ring", "joint ranking", "joint ring"})

    def needed(self, table, ways):
        """The needed pairs of (house behind giving to q, house behind giving to p)."""
        wanted = [(table.houses.index(second), table.houses.index(first)) for first, second in ways]
        return tuple((table.houses[x], table.houses[y]) for x, y in table.relation.needed(wanted))


if __name__ == "__main__":
    unittest.main()
