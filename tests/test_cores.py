import itertools
import random
import unittest

from helpers import (ANY, CROSSED, NO_SEQUENCES, RING, ROOMS, SILENT, STILL, TIDE, Case, Spec, bends, fault_of,
                     is_shown_by, random_house, same, specs, without)
from rueless.cores import all_cores, core_holds, core_of, core_paper, is_rueful_part
from rueless.errors import BadHouse, BadTrade, Refused
from rueless.single import Single
from rueless.strikes import check_verdict, verdict_paper
from rueless.trades import cut_part, least_part
from rueless.twos import Table
from rueless.verdict import is_rueless

# Four clashes, and a core for each of them.
TWICE = Spec(6, {"a": [4, None, 5, None, None, None], "b": [None, 4, None, 5, None, None],
                 "c": [4, 4, 5, 5, None, None]})
# Of the greatest parts within its core the first one has more stands than the second one.
UNLIKE = Spec(5, {"a": [None, None, None, None, 2], "b": [None, None, None, 0, None], "c": [None, 3, None, 1, 4]})
TOLD = [UNLIKE, CROSSED, RING, ROOMS, SILENT, STILL, TIDE, TWICE]


def slow_parts(spec):
    """All parts, those of fewest stands first, then ascending."""
    found = []
    for many in range(spec.stands + 1):
        for part in itertools.combinations(range(spec.stands), many):
            ways = [spec.ways[letter][stand] for letter in spec.letters for stand in part]
            if all(behind is None or behind in part for behind in ways):
                found.append(part)
    return found


def slow_cores(spec):
    rueful = [part for part in slow_parts(spec) if part and not is_rueless(Table(cut_part(spec.trade, part)))]
    return [part for part in rueful if not any(set(one) < set(part) for one in rueful)]


def greatest_within(spec, part):
    parts = [one for one in slow_parts(spec) if one and set(one) < set(part)]
    return sorted(one for one in parts if not any(set(one) < set(other) for other in parts))


def cases(seed, many):
    return specs(seed, many, stands=(2, 3, 4, 5, 6), kinds=("a", "ab", "abc"), empty=0.6) + TOLD


class CoresTest(Case):
    def test_parts_and_cores(self):
        found = set()
        for spec in cases(400, 80):
            table = Table(spec.trade)
            cores = slow_cores(spec)
            found.add(len(cores))
            self.assertSame(self.agrees(all_cores, table=table), tuple(cores))
            for part in slow_parts(spec):
                told = part != () and not is_rueless(Table(cut_part(spec.trade, part)))
                self.assertIs(self.agrees(is_rueful_part, table=table, part=part), told)
        self.assertTrue({0, 1, 4} <= found)

    def test_the_core_of_a_house(self):
        dice = random.Random(401)
        found = set()
        for spec in cases(402, 60):
            table = Table(spec.trade)
            for _ in range(4):
                house = random_house(dice, spec, 3)
                part = least_part(spec.trade, house)
                told = [core for core in slow_cores(spec) if set(core) <= set(part)]
                core = self.agrees(core_of, table=table, house=list(house)[::-1])
                self.assertSame(core, told[0] if told else None)
                found.add((core is None, part == tuple(range(spec.stands))))
                if core is None and spec.stands < 5:
                    self.assertTrue(Single(table, house).is_rueless())
        self.assertEqual(len(found), 4)
        self.assertSame(core_of(Table(TWICE.trade), (0, 1, 2, 3)), (0, 1, 4))
        self.assertSame(core_of(Table(TWICE.trade), [3, 2]), (2, 3, 5))
        self.assertSame(core_of(Table(TWICE.trade), ()), None)

    def test_wrong_values(self):
        table = Table(TWICE.trade)
        parts = slow_parts(TWICE)
        for value in without(ANY, lambda value: type(value) is tuple and value in parts and True not in value) + [
                (1, 0, 4), [0, 4], (0,), (4, 4), (0, 1, 2, 3)]:
            self.fails(BadTrade(0), is_rueful_part, table, value)
        for value in NO_SEQUENCES:
            self.fails(BadHouse(-1), core_of, table, value)
        self.fails(BadHouse(1), core_of, table, [5, 6])
        for value in ANY + parts[:1] + [[0, 1, 4], (0, 1, 4, 5), (0, 1, 2, 3, 4, 5), (False, True, 4)]:
            self.fails(Refused(0), core_paper, table, value)
            self.fails(Refused(0), core_paper, Table(ROOMS.trade), value)


def slow_core(spec, paper):
    word, part, told, rests = paper
    if word != "core" or part not in slow_parts(spec) or not part or told[0] != "rueful" or type(rests) is not tuple:
        return False
    if [rest for rest, _ in rests] != greatest_within(spec, part) or not all(type(rest) is tuple for rest in rests):
        return False
    if fault_of(check_verdict, cut_part(spec.trade, part), told) is not None:
        return False
    return all(one[0] == "rueless" and fault_of(check_verdict, cut_part(spec.trade, rest), one) is None
               for rest, one in rests)


class CorePaperTest(Case):
    def papers(self, seed, many):
        for spec in specs(seed, many, stands=(3, 4), kinds=("ab", "abc"), empty=0.6) + [CROSSED, TWICE, UNLIKE]:
            for core in slow_cores(spec):
                yield spec, core, core_paper(Table(spec.trade), core)

    def test_papers(self):
        many = set()
        for spec, core, paper in self.papers(403, 80):
            rests = greatest_within(spec, core)
            many.add(len(rests))
            told = tuple((rest, verdict_paper(Table(cut_part(spec.trade, rest)))) for rest in rests)
            self.assertSame(paper, ("core", core, verdict_paper(Table(cut_part(spec.trade, core))), told))
            self.assertSame(core_paper(table=Table(spec.trade), part=core), paper)
            self.assertIs(self.agrees(core_holds, trade=spec.trade, value=paper), True)
            self.assertTrue(is_shown_by(slow_core, spec, paper))
        self.assertTrue({0, 1, 2} <= many)
        self.assertSame([rest for rest, _ in core_paper(Table(UNLIKE.trade), (0, 1, 2, 3, 4))[3]],
                        [(0, 1, 2, 3), (0, 2, 4)])

    def test_bent_papers(self):
        dice = random.Random(404)
        held = []
        for spec, core, paper in self.papers(405, 60):
            for bent in bends(dice, paper, 40):
                held.append(is_shown_by(slow_core, spec, bent))
                self.assertIs(core_holds(spec.trade, bent), held[-1], bent)
        self.assertGreater(held.count(True), 50)
        self.assertGreater(held.count(False), 500)

    def test_other_papers(self):
        word, core, paper, rests = core_paper(Table(TWICE.trade), (0, 1, 4))
        self.assertEqual([rest for rest, _ in rests], [(0, 4), (1, 4)])
        strikes = paper[4]
        longer = paper[:4] + (strikes + strikes,)
        more = rests[0][1][:2] + (rests[0][1][2] + (((0, 0), (0, 1)),),)
        self.assertIs(core_holds(TWICE.trade, (word, core, longer, rests)), True)
        self.assertIs(core_holds(TWICE.trade, (word, core, longer, ((rests[0][0], more), rests[1]))),
                      fault_of(check_verdict, cut_part(TWICE.trade, (0, 4)), more) is None)
        rueful = (0, 1, 2, 3, 4, 5)
        whole = verdict_paper(Table(TWICE.trade))
        greater = greatest_within(TWICE, rueful)
        self.assertIs(core_holds(TWICE.trade, (word, rueful, whole, tuple(
            (rest, verdict_paper(Table(cut_part(TWICE.trade, rest)))) for rest in greater))), False)
        for bent in ((word, core, paper, rests[::-1]), (word, core, paper, rests[:1]), (word, core, paper, list(rests)),
                     (word, list(core), paper, rests), (word, core, rests[0][1], rests), (word, core, paper, rests * 2),
                     (word, core, paper, ((rests[0][0], paper), rests[1])), (word, (), paper, ()),
                     (word, core, paper, tuple([list(one) for one in rests])), ("cores", core, paper, rests),
                     (word, core, paper), (word, core, paper, rests, ())):
            self.assertIs(core_holds(TWICE.trade, bent), False)
        for value in ANY:
            self.assertIs(core_holds(TWICE.trade, value), False)
            for at in range(4):
                bent = (word, core, paper, rests)[:at] + (value,) + (word, core, paper, rests)[at + 1:]
                self.assertIs(core_holds(TWICE.trade, bent), same(bent, (word, core, paper, rests)))


if __name__ == "__main__":
    unittest.main()
