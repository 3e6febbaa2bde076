import itertools
import random
import unittest

from helpers import (ANY, CROSSED, RING, ROOMS, SILENT, STILL, TIDE, Case, Spec, choices, ending_spec, specs)
from rueless.errors import PaperFault
from rueless.houses import is_house
from rueless.strikes import check_verdict, is_closed, verdict_paper
from rueless.trades import Trade
from rueless.twos import Table
from rueless.verdict import first_clash

TOLD = [CROSSED, RING, ROOMS, SILENT, STILL, TIDE, ending_spec(random.Random(7), 7, "ab", "0")]


def is_pair(spec, value, places=None):
    """Two unlike houses with as many places, by the words."""
    if type(value) is not tuple or len(value) != 2 or not all(is_house(spec.trade, house) for house in value):
        return False
    return value[0] != value[1] and len(value[0]) == len(value[1]) and places in (None, len(value[0]))


def is_answered(spec, pair, pairs):
    return all(any(x2 == y2 or (x2, y2) in pairs for y2 in spec.moves(pair[1], letter))
               for letter in spec.letters for x2 in spec.moves(pair[0], letter))


def slow_check(spec, paper):
    """The number of the PaperFault of a paper that is a tuple with its word, None if it holds."""
    if paper[0] == "rueless":
        return slow_check_rueless(spec, *paper[1:])
    return slow_check_rueful(spec, *paper[1:])


def slow_check_rueless(spec, sides, pairs):
    takers = {kind: [one for one in range(spec.stands) if spec.ways[kind][one] is not None] for kind in spec.kinds}
    told = [(kind,) + two for kind in spec.kinds for two in itertools.combinations(takers[kind], 2)]
    if [side[:3] for side in sides] != told or not {side[3] for side in sides} <= {"first", "second", "both"}:
        return 0
    for kind, p, q, word in sides:
        first, second = choices(spec, kind, p, q)
        for pair, words in (((second, first), ("first", "both")), ((first, second), ("second", "both"))):
            if word in words and first != second and pair not in pairs:
                return 0
    for number, pair in enumerate(pairs, 1):
        if not is_pair(spec, pair, 2) or pair in pairs[:number - 1]:
            return number
    for number, pair in enumerate(pairs, 1):
        if not is_answered(spec, pair, pairs):
            return number
    return None


def slow_check_rueful(spec, kind, p, q, rows):
    if kind not in spec.kinds or not p < q or None in (spec.ways[kind][p], spec.ways[kind][q]):
        return 0
    first, second = choices(spec, kind, p, q)
    for pair in ((second, first), (first, second)):
        if pair not in [row[:2] for row in rows]:
            return 0
    for number, (x, y, letter, x2) in enumerate(rows, 1):
        if not is_pair(spec, (x, y), 2) or letter not in list(spec.letters) or not is_house(spec.trade, x2):
            return number
    for number, (x, y, letter, x2) in enumerate(rows, 1):
        if x2 not in spec.moves(x, letter):
            return number
        if not all((x2, y2) in [row[:2] for row in rows[:number - 1]] for y2 in spec.moves(y, letter)):
            return number
    return None


class PaperTest(Case):
    def test_verdict_papers(self):
        words = set()
        for spec in specs(49, 80) + TOLD:
            table = Table(spec.trade)
            paper = self.agrees(verdict_paper, table=table)
            words.add(paper[0])
            clash = first_clash(table)
            if clash is not None:
                first, second = choices(spec, *clash)
                rows = table.relation.strikes([(table.houses.index(x), table.houses.index(y))
                                               for x, y in ((second, first), (first, second))])
                told = tuple((table.houses[x], table.houses[y], spec.letters[at], table.houses[x2])
                             for x, y, at, x2 in rows)
                self.assertSame(paper, ("rueful",) + clash + (told,))
                ranks = [table.rank(row[0], row[1]) for row in told]
                self.assertEqual(ranks, sorted(ranks))
            else:
                sides = [(kind,) + side for kind in spec.kinds for side in table.sides(kind)]
                said = []
                for kind, p, q, word in sides:
                    first, second = choices(spec, kind, p, q)
                    said += [(second, first)] if word in ("first", "both") else []
                    said += [(first, second)] if word in ("second", "both") else []
                pairs = table.relation.needed([(table.houses.index(x), table.houses.index(y)) for x, y in said])
                told = tuple((table.houses[x], table.houses[y]) for x, y in pairs)
                self.assertSame(paper, ("rueless", tuple(sides), told))
                self.assertIs(is_closed(spec.trade, told), True)
            self.assertIsNone(check_verdict(trade=spec.trade, paper=paper))
        self.assertEqual(words, {"rueless", "rueful"})

    def test_told_papers(self):
        self.assertSame(verdict_paper(Table(ROOMS.trade)), ("rueless", (("a", 0, 1, "first"),), (((0, 2), (1, 2)),)))
        self.assertSame(verdict_paper(Table(CROSSED.trade)), (
            "rueful", "c", 0, 1, (((0, 2), (1, 2), "a", (2, 2)), ((1, 2), (0, 2), "b", (2, 2)))))
        self.assertSame(verdict_paper(Table(STILL.trade)), ("rueless", (), ()))


class ClosedTest(Case):
    def test_closed(self):
        dice = random.Random(50)
        found = set()
        for spec in specs(51, 60, stands=(1, 2, 3)) + TOLD[:6]:
            table = Table(spec.trade)
            houses = table.houses
            every = [(houses[x], houses[y]) for x, y in table.relation.pairs() if x != y]
            self.assertIs(is_closed(trade=spec.trade, value=tuple(every)), True)
            self.assertIs(is_closed(spec.trade, every), False)
            dice.shuffle(every)
            for many in range(len(every) + 1):
                pairs = tuple(every[:many])
                told = all(is_answered(spec, pair, pairs) for pair in pairs)
                found.add(told)
                self.assertIs(is_closed(spec.trade, pairs), told)
            for pair in every[:1]:
                for value in (pair, (pair[0], pair[0]), (pair[0], pair[1] + (spec.stands - 1,)), list(pair), 5,
                              ([*pair[0]], pair[1]), pair + pair[:1], (pair[0][::-1], pair[1] + (spec.stands,))):
                    self.assertIs(is_closed(spec.trade, tuple(every) + (value,)), False)
        self.assertEqual(found, {True, False})

    def test_houses_of_any_size_and_any_values(self):
        pairs = (((0, 0, 2), (1, 1, 2)), ((0, 2, 2), (1, 2, 2)), ((0,), (1,)), ((0, 2), (1, 2)))
        self.assertIs(is_closed(ROOMS.trade, pairs), True)
        self.assertIs(is_closed(ROOMS.trade, pairs[:1]), False)
        self.assertIs(is_closed(ROOMS.trade, pairs[1:]), True)
        self.assertIs(is_closed(ROOMS.trade, (((0, 2), (True, 2)),)), False)
        self.assertIs(is_closed(ROOMS.trade, (((0,), (1, 2)),)), False)
        self.assertIs(is_closed(ROOMS.trade, (((), ()),)), False)
        for value in ANY:
            self.assertIs(is_closed(ROOMS.trade, value), value == () and isinstance(value, tuple))
            if not isinstance(value, tuple) or value == ():
                self.assertIs(is_closed(ROOMS.trade, (value,)), False)


class CheckTest(Case):
    def check(self, spec, paper):
        """The paper is judged as the words say."""
        at = slow_check(spec, paper)
        if at is None:
            self.assertIsNone(check_verdict(spec.trade, paper))
        else:
            self.fails(PaperFault(at), check_verdict, spec.trade, paper)
        return at

    def test_bent_papers(self):
        dice = random.Random(52)
        found = set()
        for spec in specs(53, 60, stands=(2, 3, 4)) + TOLD:
            paper = verdict_paper(Table(spec.trade))
            rows = paper[-1]
            houses = Table(spec.trade).houses
            for at, row in enumerate(rows):
                other = dice.choice(rows)
                bent = [rows[:at] + rows[at + 1:], rows[:at] + (other,) + rows[at + 1:], rows + (row,), (row,) + rows,
                        rows[:at] + rows[at + 1:] + (row,), rows[at:] + rows[:at], rows[::-1]]
                for place in range(len(row)):
                    for value in (dice.choice(houses), dice.choice(houses)[:1], dice.choice("abcd01x"), row[0], row[1]):
                        bent.append(rows[:at] + (row[:place] + (value,) + row[place + 1:],) + rows[at + 1:])
                for told in bent:
                    found.add((paper[0], self.check(spec, paper[:-1] + (told,))))
            for x, y in itertools.product(houses[:3], repeat=2):
                more = (x, y) if paper[0] == "rueless" else (x, y, "a", x)
                for told in (rows + (more,), (more,) + rows):
                    found.add((paper[0], self.check(spec, paper[:-1] + (told,))))
        for word in ("rueless", "rueful"):
            self.assertTrue({(word, None), (word, 0), (word, 1), (word, 2)} <= found)

    def test_bent_sides(self):
        for spec in specs(54, 60, stands=(2, 3, 4)) + TOLD:
            paper = verdict_paper(Table(spec.trade))
            if paper[0] != "rueless":
                continue
            sides = paper[1]
            for at, side in enumerate(sides):
                for word in ("first", "second", "both", "none", "x", ""):
                    self.check(spec, ("rueless", sides[:at] + (side[:3] + (word,),) + sides[at + 1:], paper[2]))
                for value in (5, None, ["first"], ("first",)):
                    bent = sides[:at] + (side[:3] + (value,),) + sides[at + 1:]
                    self.fails(PaperFault(0), check_verdict, spec.trade, ("rueless", bent, paper[2]))
                for bent in (sides[:at] + sides[at + 1:], sides + (side,), sides[:at] + (list(side),) + sides[at + 1:],
                             sides[:at] + (side + (0,),) + sides[at + 1:], list(sides),
                             sides[:at] + ((side[0], side[2], side[1], side[3]),) + sides[at + 1:]):
                    self.fails(PaperFault(0), check_verdict, spec.trade, ("rueless", bent, paper[2]))
            if len(sides) > 1:
                self.fails(PaperFault(0), check_verdict, spec.trade, ("rueless", sides[::-1], paper[2]))

    def test_other_papers_that_hold(self):
        pair = ((0, 2), (1, 2))
        sides = (("a", 0, 1, "first"),)
        self.assertIsNone(check_verdict(ROOMS.trade, ("rueless", sides, (((0, 0), (0, 1)), pair))))
        self.assertIsNone(check_verdict(Spec(2, {"a": [0, 1]}).trade, ("rueless", (("a", 0, 1, "second"),), ())))
        paper = verdict_paper(Table(CROSSED.trade))
        rows = paper[4]
        self.assertIsNone(check_verdict(CROSSED.trade, paper[:4] + (rows[::-1] + rows,)))
        self.assertIsNone(check_verdict(CROSSED.trade, paper[:4] + ((((0, 0), (1, 1), "a", (0, 2)),) + rows,)))
        self.fails(PaperFault(3), check_verdict, CROSSED.trade,
                   paper[:4] + (rows + (((0, 0), (0, 1), "c", (0, 2)),),))

    def test_what_comes_first(self):
        pair = ((0, 2), (1, 2))
        sides = (("a", 0, 1, "first"),)
        for pairs, at in (((), 0), ((5,), 0), ((5, pair), 1), ((pair, 5), 2), ((pair, pair), 2), ((pair, (pair[0], pair[0])), 2),
                          ((pair, ((0,), (1,))), 2), ((pair, ((0, 1), (0, 0)), 5), 3), ((pair, ((0, 1), (0, 0))), 2),
                          ((((0, 1), (0, 0)), pair), 1), ((list(pair),), 0), ((((False, 2), (1, 2)),), 0),
                          ((pair, ((0, 2), (True, 2))), 2), ((pair + pair[:1],), 0), ((pair, pair + pair[:1]), 2)):
            self.fails(PaperFault(at), check_verdict, ROOMS.trade, ("rueless", sides, pairs))
        word, kind, p, q, rows = verdict_paper(Table(CROSSED.trade))
        for bent, at in (((), 0), (rows[:1], 0), (rows[1:], 0), ((5,) + rows, 1), (rows + (5,), 3), (rows + (rows[0][:3],), 3),
                         ((rows[0][:2], rows[1]), 1), ((rows[0][:2] + ("a", 5), rows[1]), 1),
                         ((rows[0][:2] + ("a", (2,)), rows[1]), 1), ((rows[0][:2] + ("a", (2,)), rows[1], 5), 3),
                         ((rows[0][:2] + ("b", (2, 2)), rows[1]), 1), ((rows[0], rows[1][:2] + ("x", (2, 2))), 2),
                         ((list(rows[0]), rows[1]), 0), ((rows[0], rows[1], list(rows[0])), 3),
                         ((((0, 2), (True, 2), "a", (2, 2)), rows[1]), 0), ((rows[0] + (5,), rows[1]), 1),
                         ((rows[0][:2] + ("a", (2,)), rows[1][:3] + (5,)), 2),
                         (rows + (((0, 2), (0, 2), "a", (2, 2)),), 3), (rows + (((0,), (1,), "a", (2,)),), 3)):
            self.fails(PaperFault(at), check_verdict, CROSSED.trade, (word, kind, p, q, bent))

    def test_wrong_kinds_and_stands(self):
        word, kind, p, q, rows = verdict_paper(Table(CROSSED.trade))
        for value in ANY:
            if value != "c":
                self.fails(PaperFault(0), check_verdict, CROSSED.trade, (word, value, p, q, rows))
            if not (type(value) is int and value == 0):
                self.fails(PaperFault(0), check_verdict, CROSSED.trade, (word, kind, value, q, rows))
            if not (type(value) is int and value == 1):
                self.fails(PaperFault(0), check_verdict, CROSSED.trade, (word, kind, p, value, rows))
            self.fails(PaperFault(0), check_verdict, CROSSED.trade, (word, kind, p, q, value))
        self.fails(PaperFault(0), check_verdict, CROSSED.trade, (word, kind, q, p, rows))
        self.fails(PaperFault(0), check_verdict, CROSSED.trade, (word, "a", p, q, rows))
        self.fails(PaperFault(0), check_verdict, CROSSED.trade, (word, "b", p, q, rows))
        for stand in (0, 1):
            same = CROSSED.moves((stand, stand), "c") * 2
            more = (tuple(same) + ("a", (2, 2)),)
            self.fails(PaperFault(0), check_verdict, CROSSED.trade, (word, kind, stand, stand, more + rows))
        self.fails(PaperFault(0), check_verdict, CROSSED.trade, (word, kind, p, q, list(rows)))

    def test_values_that_are_no_papers(self):
        told = verdict_paper(Table(CROSSED.trade))
        for value in ANY + [(), told[1:], told + ((),), list(told), ("Rueful",) + told[1:], ("rueless",) + told[1:],
                            ("rueful", (), ())]:
            self.fails(PaperFault(0), check_verdict, CROSSED.trade, value)
        self.fails(PaperFault(0), check_verdict, STILL.trade, ("rueful", (), ()))
        self.fails(PaperFault(0), check_verdict, STILL.trade, ("x", (), ()))
        for trade in (STILL.trade, SILENT.trade, Trade(1, {"a": [0]}), Trade(2, {"a": [1, None]})):
            self.assertIsNone(check_verdict(trade, ("rueless", (), ())))
            for value in ANY:
                if not (isinstance(value, tuple) and value == ()):
                    is_paper = value == ("rueless", (), ())
                    self.fails(PaperFault(0), check_verdict, trade, ("rueless", value, ()))
                    self.fails(PaperFault(1 if isinstance(value, tuple) else 0), check_verdict, trade,
                               ("rueless", (), value))
                    if not is_paper:
                        self.fails(PaperFault(0), check_verdict, trade, value)


if __name__ == "__main__":
    unittest.main()
