import itertools
import random
import unittest

from helpers import (ANY, JOINT, NO_SEQUENCES, RING, ROOMS, SILENT, STILL, TIDE, Case, Spec, bends, choices, is_shown_by,
                     no_letters, rueless_specs, without)
from rueless.errors import BadLooks, BadOrder, NoLetter
from rueless.looks import (chain_paper, fewest_looks, holds_looks, joint_chain, joint_looks, longest_chain, looks_loss,
                           looks_paper)
from rueless.rankings import first_ring, holds_ranking, joint_ring, ranking_paper
from rueless.stewards import Steward
from rueless.strikes import is_closed
from rueless.twos import Table

# In the first trade three stands go ahead of one another in a row, in the second one two kinds do.
LINE = Spec(5, {"a": [4, 4, 4, 4, None], "b": [None, 4, 4, 4, None], "c": [None, None, 4, 4, None]})
MIXED = Spec(4, {"a": [3, 3, 3, None], "b": [None, 3, 3, None], "c": [None, None, 3, None]})
TOLD = [JOINT, RING, ROOMS, SILENT, STILL, TIDE, LINE, MIXED]


def stewards(seed, many):
    for spec in rueless_specs(seed, many) + TOLD:
        yield spec, Steward(Table(spec.trade))


def takers(spec, kind):
    return [stand for stand in range(spec.stands) if spec.ways[kind][stand] is not None]


def is_ahead(spec, kind, p, q):
    """Whether p goes ahead of q, by the rows of the two choices alone."""
    if p == q or None in (spec.ways[kind][p], spec.ways[kind][q]):
        return False
    first, second = choices(spec, kind, p, q)
    return spec.parting(first, second) is not None and spec.parting(second, first) is None


def chains(spec, kinds, end):
    """All chains, as tuples of (stand, kind), by depth: only where there is no ring."""
    found = []

    def go_on(chain, stand):
        found.append(chain + ((stand, end),))
        for kind in kinds:
            for q in range(spec.stands):
                if is_ahead(spec, kind, stand, q):
                    go_on(chain + ((stand, kind),), q)

    for stand in range(spec.stands):
        if any(spec.ways[kind][stand] is not None for kind in kinds):
            go_on((), stand)
    return found


def slow_loss(spec, kind, looks, order):
    for p, q in itertools.product(takers(spec, kind), repeat=2):
        if is_ahead(spec, kind, q, p) and order.index(looks[p]) <= order.index(looks[q]):
            first, second = choices(spec, kind, p, q)
            return (p, q, spec.parting(second, first))
    return None


def random_looks(dice, spec, kind):
    """Looks, some of them great, and an order of them with strange ones between."""
    numbers = dice.sample([0, 1, 2, 3, 7, 10 ** 20, 99], dice.randrange(1, 5))
    looks = [dice.choice(numbers) for _ in range(spec.stands)]
    order = sorted({looks[stand] for stand in takers(spec, kind)}) + dice.sample([4, 5, 6, 10 ** 21], dice.randrange(3))
    dice.shuffle(order)
    return looks, order


class LooksTest(Case):
    def test_losses(self):
        dice = random.Random(301)
        found = set()
        for spec, steward in stewards(302, 60):
            for kind in spec.kinds:
                for _ in range(6):
                    looks, order = random_looks(dice, spec, kind)
                    told = slow_loss(spec, kind, looks, order)
                    found.add(told is None)
                    self.assertSame(self.agrees(looks_loss, steward=steward, kind=kind, looks=looks, order=order), told)
        self.assertEqual(found, {True, False})

    def test_what_serves_loses_nothing_in_any_house(self):
        dice = random.Random(303)
        for spec, steward in stewards(304, 25):
            for kind in spec.kinds:
                looks, order = random_looks(dice, spec, kind)
                if looks_loss(steward, kind, looks, order) is not None:
                    continue
                for house in itertools.combinations_with_replacement(range(spec.stands), 3):
                    ways = spec.choices(house, kind)
                    if ways:
                        best = min(order.index(looks[stand]) for stand, _ in ways)
                        for stand, behind in ways:
                            if order.index(looks[stand]) == best:
                                self.assertEqual([spec.parting(one, behind) for _, one in ways], [None] * len(ways))

    def test_levels_and_chains(self):
        rings = set()
        for spec, steward in stewards(305, 60):
            for kind in spec.kinds:
                looks = self.agrees(fewest_looks, steward=steward, kind=kind)
                chain = self.agrees(longest_chain, steward=steward, kind=kind)
                rings.add(first_ring(steward, kind) is None)
                if first_ring(steward, kind) is not None:
                    self.assertEqual((looks, chain), (None, None))
                    continue
                told = chains(spec, kind, "")
                levels = [max([len(one) - 1 for one in told if one[-1][0] == stand], default=0)
                          for stand in range(spec.stands)]
                self.assertSame(looks, tuple(levels))
                longest = max([len(one) for one in told], default=0)
                least = min([one for one in told if len(one) == longest], default=())
                self.assertSame(chain, tuple(stand for stand, _ in least))
                self.assertIsNone(looks_loss(steward, kind, looks, list(range(max(looks) + 1))))
                self.assertEqual(len({looks[stand] for stand in takers(spec, kind)}), len(chain))
        self.assertEqual(rings, {True, False})

    def test_looks_and_chains_of_all_kinds(self):
        rings = set()
        for spec, steward in stewards(306, 60):
            looks = self.agrees(joint_looks, steward=steward)
            chain = self.agrees(joint_chain, steward=steward)
            rings.add(joint_ring(steward) is None)
            if joint_ring(steward) is not None:
                self.assertEqual((looks, chain), (None, None))
                continue
            told = chains(spec, spec.kinds, "")
            levels = [max([len(one) - 1 for one in told if one[-1][0] == stand], default=0)
                      for stand in range(spec.stands)]
            self.assertSame(looks, tuple(levels))
            longest = max([len(one) for one in told], default=0)
            self.assertSame(chain, min([one for one in told if len(one) == longest], default=()))
            for kind in spec.kinds:
                self.assertIsNone(looks_loss(steward, kind, looks, list(range(max(looks) + 1))))
        self.assertEqual(rings, {True, False})

    def test_told_trades(self):
        line = Steward(Table(LINE.trade))
        self.assertSame(fewest_looks(line, "a"), (0, 1, 2, 2, 0))
        self.assertSame((longest_chain(line, "a"), longest_chain(line, "b")), ((0, 1, 2), (1, 2)))
        self.assertSame(looks_loss(line, "a", [7, 7, 9, 9, 0], [7, 9]), (1, 0, "b"))
        self.assertSame(looks_loss(line, "a", [7, 8, 9, 9, 0], [9, 8, 7]), (1, 0, "b"))
        self.assertIsNone(looks_loss(line, "a", [7, 8, 9, 9, 0], [3, 7, 8, 11, 9]))
        self.assertSame(joint_chain(Steward(Table(MIXED.trade))), ((0, "a"), (1, "a"), (2, "")))
        for spec in (SILENT, STILL):
            steward = Steward(Table(spec.trade))
            self.assertSame((joint_looks(steward), joint_chain(steward)), ((0, 0), ()))
        nobody = Steward(Table(Spec(2, {"a": [None, None], "b": [1, 0]}).trade))
        self.assertSame((fewest_looks(nobody, "a"), longest_chain(nobody, "a")), ((0, 0), ()))
        self.assertSame(longest_chain(nobody, "b"), (0,))
        self.assertIsNone(looks_loss(nobody, "a", (5, 5), ()))

    def test_wrong_values_in_order(self):
        steward = Steward(Table(ROOMS.trade))
        for value in no_letters("ab"):
            for call in (fewest_looks, longest_chain, looks_paper, chain_paper):
                self.fails(NoLetter(value), call, steward, value)
            self.fails(NoLetter(value), looks_loss, steward, value, None, None)
        for value in NO_SEQUENCES + [[0, 0], (0,) * 4, ()]:
            self.fails(BadLooks(-1), looks_loss, steward, "a", value, None)
        for value in NO_SEQUENCES:
            self.fails(BadOrder(-1), looks_loss, steward, "a", (0, 0, 0), value)
        no_numbers = without(ANY, lambda value: type(value) is int and value >= 0)
        for value in no_numbers:
            for at in range(3):
                looks = [4, 5, 6]
                looks[at] = value
                self.fails(BadLooks(at), looks_loss, steward, "a", looks, None)
                self.fails(BadLooks(at), looks_loss, steward, "a", looks[:at + 1] + [value] * (2 - at), ())
                order = [4, 5, 6]
                order[at] = value
                self.fails(BadOrder(at), looks_loss, steward, "a", (4, 5, 6), order)
        self.fails(BadOrder(2), looks_loss, steward, "a", (4, 5, 6), [4, 6, 4, 5, 5])
        self.fails(BadOrder(1), looks_loss, steward, "a", (4, 5, 6), (4,))
        self.fails(BadOrder(3), looks_loss, steward, "a", (4, 5, 6), (4, 6, 7))
        self.fails(BadOrder(0), looks_loss, steward, "a", (4, 5, 6), [])
        self.assertSame(looks_loss(steward, "a", (4, 5, 6), (4, 5)), None)


def slow_looks(spec, paper):
    word, kind, looks, order, relation = paper
    if word != "looks" or kind not in list(spec.kinds) or len(looks) != spec.stands or len(set(order)) != len(order):
        return False
    if type(looks) is not tuple or type(order) is not tuple or min(looks + order, default=0) < 0:
        return False
    pairs = []
    for p, q in itertools.permutations(takers(spec, kind), 2):
        if order.index(looks[p]) <= order.index(looks[q]):
            first, second = choices(spec, kind, p, q)
            pairs += [(second, first)] if first != second else []
    return (all(looks[stand] in order for stand in takers(spec, kind)) and is_closed(spec.trade, relation)
            and all(pair in relation for pair in pairs))


def slow_chain(spec, paper):
    word, kind, stands, rows = paper
    if word != "chain" or kind not in list(spec.kinds) or type(rows) is not tuple or type(stands) is not tuple:
        return False
    if not all(stand in takers(spec, kind) for stand in stands) or len(rows) != max(len(stands) - 1, 0):
        return False
    for p, q, row in zip(stands, stands[1:], rows):
        first, second = choices(spec, kind, p, q)
        if not all(sign in spec.letters for sign in row) or len(row) > 200:
            return False
        if not spec.serves(first, row) or spec.serves(second, row):
            return False
    return True


def slow_holds(spec, paper):
    return slow_looks(spec, paper) if len(paper) == 5 else slow_chain(spec, paper)


class LooksPaperTest(Case):
    def test_papers(self):
        words = set()
        for spec, steward in stewards(307, 50):
            for kind in spec.kinds:
                paper = self.agrees(looks_paper, steward=steward, kind=kind)
                chain = self.agrees(chain_paper, steward=steward, kind=kind)
                words.add(paper[0])
                if first_ring(steward, kind) is not None:
                    self.assertSame((paper, chain), (ranking_paper(steward, kind),) * 2)
                    self.assertEqual(paper[0], "ring")
                    self.assertIs(holds_looks(spec.trade, paper), False)
                    self.assertIs(holds_ranking(spec.trade, paper), True)
                    continue
                looks = fewest_looks(steward, kind)
                self.assertSame(paper[:4], ("looks", kind, looks, tuple(range(max(looks) + 1))))
                wanted = []
                for p, q in itertools.permutations(takers(spec, kind), 2):
                    if looks[p] <= looks[q]:
                        wanted.append(choices(spec, kind, p, q)[::-1])
                relation = steward.table.relation
                numbers = {house: number for number, house in enumerate(steward.table.houses)}
                needed = relation.needed([(numbers[x], numbers[y]) for x, y in wanted])
                self.assertSame(paper[4], tuple((steward.table.houses[x], steward.table.houses[y]) for x, y in needed))
                stands = longest_chain(steward, kind)
                rows = tuple(spec.parting(*choices(spec, kind, p, q)) for p, q in zip(stands, stands[1:]))
                self.assertSame(chain, ("chain", kind, stands, rows))
                for one in (paper, chain):
                    self.assertIs(self.agrees(holds_looks, trade=spec.trade, value=one), True)
                    self.assertTrue(is_shown_by(slow_holds, spec, one))
        self.assertEqual(words, {"looks", "ring"})

    def test_bent_papers(self):
        dice = random.Random(308)
        held = set()
        for spec, steward in stewards(309, 40):
            for kind in spec.kinds:
                for paper in (looks_paper(steward, kind), chain_paper(steward, kind)):
                    for bent in bends(dice, paper, 40):
                        told = is_shown_by(slow_holds, spec, bent)
                        held.add(told)
                        self.assertIs(holds_looks(spec.trade, bent), told, bent)
        self.assertEqual(held, {True, False})

    def test_other_right_papers(self):
        dice = random.Random(310)
        found = set()
        for spec, steward in stewards(311, 40):
            every = tuple((steward.table.houses[x], steward.table.houses[y])
                          for x, y in steward.table.relation.pairs() if x != y)
            for kind in spec.kinds:
                for _ in range(5):
                    looks, order = random_looks(dice, spec, kind)
                    told = looks_loss(steward, kind, looks, order) is None
                    found.add(told)
                    paper = ("looks", kind, tuple(looks), tuple(order), every[::-1])
                    self.assertIs(holds_looks(spec.trade, paper), told)
                for many in range(4):
                    stands = tuple(dice.choice(takers(spec, kind) or [0]) for _ in range(many))
                    rows = tuple(dice.choice(["", "a", "b", "ab", "0", "0a"]) for _ in range(max(many - 1, 0)))
                    for p, q, at in zip(stands, stands[1:], range(many)):
                        if p in takers(spec, kind) and q in takers(spec, kind) and dice.random() < 0.8:
                            row = spec.parting(*choices(spec, kind, p, q))
                            rows = rows[:at] + (rows[at] if row is None else row,) + rows[at + 1:]
                    paper = ("chain", kind, stands, rows)
                    self.assertIs(holds_looks(spec.trade, paper), is_shown_by(slow_holds, spec, paper))
        self.assertEqual(found, {True, False})

    def test_told_papers(self):
        trade = LINE.trade
        chain = ("chain", "a", (0, 1, 2), ("b", "c"))
        self.assertIs(holds_looks(trade, chain), True)
        self.assertSame(chain_paper(Steward(Table(trade)), "a")[2], (0, 1, 2))
        for bent in (("chain", "a", (), ()), ("chain", "a", (3,), ())):
            self.assertIs(holds_looks(trade, bent), True)
        for bent in (("chain", "a", (0, 1, 2), ("b",)), ("chain", "a", (0, 1, 2), ("b", "c", "")), ("chain", "a", (4,), ()),
                     ("chain", "a", [0, 1, 2], ("b", "c")), ("chain", "a", (0, 1, 2), ["b", "c"]), chain + ((),),
                     ("chain", "a", (False, True, 2), ("b", "c")), ("chain", "b", (0, 1, 2), ("b", "c")),
                     ("chain", "a", (0, 1, 2), ("b", "c" * 201)), ("ring", "a", (0, 1, 2), ("b", "c")),
                     ("chain", "a", (0, 1, 2), ("b", "a")), ("chain", "x", (), ()), ("chain", "a", (), ("",))):
            self.assertIs(holds_looks(trade, bent), False, bent)
        for value in ANY:
            for at in range(4):
                bent = chain[:at] + (value,) + chain[at + 1:]
                self.assertIs(holds_looks(trade, bent), is_shown_by(slow_holds, LINE, bent))
            self.assertIs(holds_looks(trade, value), False)


if __name__ == "__main__":
    unittest.main()
