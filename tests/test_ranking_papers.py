import itertools
import random
import unittest

from helpers import ANY, CROSSED, JOINT, RING, ROOMS, SILENT, STILL, TIDE, Case, Spec, choices, rueless_specs, specs
from rueless.rankings import (first_ranking, holds_joint, holds_ranking, joint_paper, judged_ranking, loss_paper,
                              ranking_paper)
from rueless.stewards import Steward
from rueless.strikes import is_closed
from rueless.twos import Table

TOLD = [JOINT, RING, ROOMS, SILENT, STILL, TIDE]


def stewards(seed, many):
    for spec in rueless_specs(seed, many) + TOLD:
        yield spec, Steward(Table(spec.trade))


def takers(spec, kind):
    return [stand for stand in range(spec.stands) if spec.ways[kind][stand] is not None]


def is_shown(spec, kind, p, q, row):
    """Whether the row shows that giving the kind to q loses what giving it to p keeps."""
    first, second = choices(spec, kind, p, q)
    return spec.serves(first, row) and not spec.serves(second, row)


def bent_relations(spec, relation, pairs, dice):
    """Relations and whether they do for these pairs: some left out, some more, in another order."""
    yield relation[::-1], True
    yield list(relation), False
    for at, pair in enumerate(relation):
        rest = relation[:at] + relation[at + 1:]
        yield rest, is_closed(spec.trade, rest) and all(pair in rest for pair in pairs)
        yield relation + (pair,), False
        yield relation[:at] + (list(pair),) + relation[at + 1:], False
        yield relation[:at] + (pair[::-1],) + relation[at + 1:], pair[::-1] not in relation and all(
            one in rest + (pair[::-1],) for one in pairs) and is_closed(spec.trade, rest + (pair[::-1],))
    more = tuple(((stand,), (stand,) * 2) for stand in range(spec.stands))
    yield relation + more[:1], False


class PaperCase(Case):
    def check_any(self, spec, call, paper):
        """What is no such paper does not hold, and raises nothing."""
        for at in range(len(paper)):
            for value in ANY:
                bent = paper[:at] + (value,) + paper[at + 1:]
                told = call(spec.trade, bent)
                self.assertIs(type(told), bool)
                if at == 0:
                    self.assertIs(told, False)
        for value in ANY + [list(paper), paper[:-1], paper + ((),), paper[1:], ("x",) + paper[1:]]:
            self.assertIs(call(spec.trade, value), False)


class HoldsRankingTest(PaperCase):
    def test_rankings(self):
        dice = random.Random(76)
        for spec, steward in stewards(77, 50):
            for kind in spec.kinds:
                ranking = first_ranking(steward, kind)
                if ranking is None:
                    continue
                paper = ranking_paper(steward, kind)
                self.assertIs(holds_ranking(trade=spec.trade, value=paper), True)
                pairs = [choices(spec, kind, p, q)[::-1] for p, q in itertools.combinations(ranking, 2)]
                pairs = [pair for pair in pairs if pair[0] != pair[1]]
                for relation, told in bent_relations(spec, paper[3], pairs, dice):
                    self.assertIs(holds_ranking(spec.trade, paper[:3] + (relation,)), told)
                every = tuple((steward.table.houses[x], steward.table.houses[y])
                              for x, y in steward.table.relation.pairs() if x != y)
                for other in itertools.permutations(takers(spec, kind)):
                    is_right = judged_ranking(steward.table, kind, other) is None
                    self.assertIs(holds_ranking(spec.trade, ("ranking", kind, other, every)), is_right)
                    self.assertIs(holds_ranking(spec.trade, ("ranking", kind, list(other), every)), False)
                    self.assertIs(holds_ranking(spec.trade, ("ranking", kind, other[1:], every)), other == ())
                    self.assertIs(holds_ranking(spec.trade, ("ranking", kind, other + (0,), every)), False)
                self.check_any(spec, holds_ranking, paper)

    def test_no_bool_is_a_stand(self):
        self.assertIs(holds_ranking(ROOMS.trade, ("ranking", "a", (0, 1), (((0, 2), (1, 2)),))), True)
        self.assertIs(holds_ranking(ROOMS.trade, ("ranking", "a", (False, True), (((0, 2), (1, 2)),))), False)
        self.assertIs(holds_ranking(ROOMS.trade, ("ranking", "a", (0, 1), (((0, 2), (True, 2)),))), False)
        self.assertIs(holds_ranking(ROOMS.trade, ("ranking", "a", (1, 0), (((0, 2), (1, 2)),))), False)
        self.assertIs(holds_ranking(ROOMS.trade, ("ranking", "b", (1,), ())), True)
        self.assertIs(holds_ranking(ROOMS.trade, ("ranking", "b", (1,), (((0, 0, 1), (0, 0, 0)),))), False)
        self.assertIs(holds_ranking(ROOMS.trade, ("ranking", "b", (1,), (((0,), (1,)),))), True)
        self.assertIs(holds_ranking(ROOMS.trade, ("ranking loss", "a", (1, 0), 1, 0, "b")), True)
        self.assertIs(holds_ranking(ROOMS.trade, ("ranking loss", "a", (1, 0), True, False, "b")), False)

    def test_rings(self):
        paper = ranking_paper(Steward(Table(RING.trade)), "a")
        word, kind, ring, rows = paper
        self.assertEqual((word, ring), ("ring", (0, 2, 1)))
        for at in range(3):
            turned = (word, kind, ring[at:] + ring[:at], rows[at:] + rows[:at])
            self.assertIs(holds_ranking(RING.trade, turned), True)
            self.assertIs(holds_ranking(RING.trade, (word, kind, turned[2], rows)),
                          all(is_shown(RING, kind, p, q, row)
                              for p, q, row in zip(turned[2], turned[2][1:] + turned[2][:1], rows)))
        self.assertIs(holds_ranking(RING.trade, (word, kind, ring * 2, rows * 2)), True)
        for bent in ((), rows[1:], rows + rows[:1], list(rows), rows[::-1], ("",) * 3, ("x",) * 3, (True,) * 3,
                     ("a" * 201,) * 3):
            self.assertIs(holds_ranking(RING.trade, (word, kind, ring, bent)), False)
        for bent in ((), ring[:2], list(ring), ring[::-1], (0, 2, True), (0, 2, 3), (0, 2, 1, 1)):
            self.assertIs(holds_ranking(RING.trade, (word, kind, bent, rows[:len(bent)])), False)
        self.assertIs(holds_ranking(RING.trade, (word, "b", (1, 2), ("a", "a"))), False)
        self.assertIs(holds_ranking(RING.trade, (word, kind, (0,), ("a",))), False)
        self.check_any(RING, holds_ranking, paper)

    def test_any_rows_that_part(self):
        word, kind, ring, rows = ranking_paper(Steward(Table(RING.trade)), "a")
        steps = list(zip(ring, ring[1:] + ring[:1]))
        for at, (p, q) in enumerate(steps):
            for row in RING.rows(4):
                told = holds_ranking(RING.trade, (word, kind, ring, rows[:at] + (row,) + rows[at + 1:]))
                self.assertIs(told, is_shown(RING, kind, p, q, row))

    def test_losses(self):
        found = set()
        for spec in specs(78, 50, stands=(2, 3)) + [CROSSED, ROOMS]:
            table = Table(spec.trade)
            for kind in spec.kinds:
                for ranking in itertools.permutations(takers(spec, kind)):
                    paper = loss_paper(table, kind, ranking)
                    found.add(paper is None)
                    if paper is None:
                        continue
                    self.assertIs(holds_ranking(spec.trade, paper), True)
                    for p, q in itertools.product(range(spec.stands), repeat=2):
                        is_earlier = (p, q) in list(itertools.combinations(ranking, 2))
                        for row in (paper[5], "", spec.letters, spec.letters[:1] * 2, "x"):
                            told = is_earlier and row != "x" and is_shown(spec, kind, q, p, row)
                            self.assertIs(holds_ranking(spec.trade, paper[:3] + (p, q, row)), told)
                    self.assertIs(holds_ranking(spec.trade, paper[:2] + (list(ranking),) + paper[3:]), False)
                    self.assertIs(holds_ranking(spec.trade, paper[:2] + (ranking[:-1],) + paper[3:]), False)
                    self.assertIs(holds_ranking(spec.trade, paper[:5] + (paper[5] + "a" * 200,)), False)
            self.check_any(spec, holds_ranking, ("ranking loss", "a", (0, 1), 0, 1, "a"))
        self.assertEqual(found, {True, False})


class HoldsJointTest(PaperCase):
    def test_joint_rankings(self):
        dice = random.Random(79)
        for spec, steward in stewards(80, 50):
            paper = joint_paper(steward)
            self.assertIs(holds_joint(trade=spec.trade, value=paper), True)
            self.assertIs(holds_ranking(spec.trade, paper), False)
            if paper[0] == "joint ranking":
                pairs = []
                for kind in spec.kinds:
                    ranking = [stand for stand in paper[1] if stand in takers(spec, kind)]
                    pairs += [choices(spec, kind, p, q)[::-1] for p, q in itertools.combinations(ranking, 2)]
                pairs = [pair for pair in pairs if pair[0] != pair[1]]
                for relation, told in bent_relations(spec, paper[2], pairs, dice):
                    self.assertIs(holds_joint(spec.trade, paper[:2] + (relation,)), told)
                every = tuple((steward.table.houses[x], steward.table.houses[y])
                              for x, y in steward.table.relation.pairs() if x != y)
                for other in itertools.permutations(paper[1]):
                    told = all(judged_ranking(steward.table, kind, [one for one in other if one in takers(spec, kind)])
                               is None for kind in spec.kinds)
                    self.assertIs(holds_joint(spec.trade, ("joint ranking", other, every)), told)
                self.assertIs(holds_joint(spec.trade, ("joint ranking", list(paper[1]), every)), False)
                self.assertIs(holds_joint(spec.trade, ("joint ranking", paper[1] + (0,), every)), False)
            self.check_any(spec, holds_joint, paper)

    def test_joint_rings(self):
        paper = joint_paper(Steward(Table(JOINT.trade)))
        word, ring, rows = paper
        self.assertEqual((word, ring), ("joint ring", ((1, "a"), (2, "b"))))
        self.assertIs(holds_joint(JOINT.trade, (word, ring[::-1], rows[::-1])), True)
        self.assertIs(holds_joint(JOINT.trade, (word, ring * 2, rows * 2)), True)
        for bent in (ring[:1], ring + ring[:1], list(ring), (), ((1, "b"), (2, "a")), ((1, "a"), (2, "x")), ((1, "a"), 2),
                     ((1, "a"), [2, "b"]), ((True, "a"), (2, "b")), ((1, "a"), (0, "b")), ((1, "a"), (4, "b")),
                     ((3, "a"), (2, "b")), ((1, "a"), (2, "b", 0)), ((3, "b"), (2, "a"))):
            self.assertIs(holds_joint(JOINT.trade, (word, bent, rows)), False)
            self.assertIs(holds_joint(JOINT.trade, (word, bent, rows[:len(bent)])), False)
        for bent in ((), rows[:1], rows[::-1], list(rows), rows + ("",), ("", ""), ("x", "x"), (5, 5)):
            self.assertIs(holds_joint(JOINT.trade, (word, ring, bent)), False)
        for at, (p, kind) in enumerate(ring):
            for row in JOINT.rows(4):
                told = is_shown(JOINT, kind, p, ring[1 - at][0], row)
                self.assertIs(holds_joint(JOINT.trade, (word, ring, rows[:at] + (row,) + rows[at + 1:])), told)

    def test_a_next_stand_must_take_the_kind(self):
        spec = Spec(3, {"a": [2, 2, None], "b": [None, 2, 2]})
        for steps in itertools.permutations([(0, "a"), (1, "a"), (1, "b"), (2, "b")], 2):
            for rows in itertools.product(("", "a", "b", "ab"), repeat=2):
                self.assertIs(holds_joint(spec.trade, ("joint ring", steps, rows)), False)


if __name__ == "__main__":
    unittest.main()
