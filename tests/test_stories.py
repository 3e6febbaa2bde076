import itertools
import random
import unittest

from helpers import (ANY, CROSSED, NO_SEQUENCES, NO_STRINGS, ROOMS, SILENT, STILL, TIDE, Case, Spec, bends, choices,
                     is_shown_by, no_letters, no_stands, random_house, random_row, specs, without)
from rueless.errors import BadHouse, BadRow, CannotTake, NoLetter, NoStand, Refused, TooGreat
from rueless.stories import (all_stories, least_row, least_story, parting_holds, parting_paper, story_holds, story_kinds,
                             story_of, story_paper, two_partings)
from rueless.trades import cut_kinds
from rueless.twos import Table
from rueless.verdict import clashes, is_rueless

TOLD = [CROSSED, ROOMS, SILENT, STILL, TIDE]
MANY = 20000


def pairs_met(spec, house, other):
    """All pairs of a bag and a front to which rows lead, until there are no more."""
    found = {(house, (other,)): True}
    queue = [(house, (other,))]
    for bag, front in queue:
        for letter in spec.letters:
            behind = tuple(sorted({one for two in front for one in spec.moves(two, letter)}))
            for one in spec.moves(bag, letter):
                if (one, behind) not in found:
                    found[(one, behind)] = True
                    queue.append((one, behind))
    return found


class LeastRowTest(Case):
    def test_rows_of_houses_of_all_sizes(self):
        dice = random.Random(340)
        found = set()
        for spec in specs(341, 60, stands=(1, 2, 3)) + TOLD:
            table = Table(spec.trade)
            for _ in range(6):
                house, other = random_house(dice, spec, 3), random_house(dice, spec, 3)
                told = spec.parting(house, other)
                found.add((told is None, len(house) > len(other), len(house) < len(other)))
                self.assertSame(self.agrees(least_row, table=table, house=list(house)[::-1], other=other), told)
        self.assertGreaterEqual(len(found), 6)

    def test_four_places(self):
        dice = random.Random(342)
        for spec in specs(343, 12, stands=(3, 4)):
            table = Table(spec.trade)
            house = tuple(sorted(dice.choices(range(spec.stands), k=4)))
            other = tuple(sorted(dice.choices(range(spec.stands), k=4)))
            row = least_row(table, house, other)
            if row is not None:
                self.assertTrue(spec.serves(house, row) and not spec.serves(other, row))
            for length in range(min(5, 5 if row is None else len(row))):
                for signs in itertools.product(spec.letters, repeat=length):
                    self.assertFalse(spec.serves(house, "".join(signs)) and not spec.serves(other, "".join(signs)))

    def test_most(self):
        dice = random.Random(344)
        great = 0
        for spec in specs(345, 60, stands=(2, 3)) + TOLD:
            table = Table(spec.trade)
            house, other = random_house(dice, spec, 3), random_house(dice, spec, 3)
            many = len(pairs_met(spec, house, other))
            told = spec.parting(house, other)
            for most in (many, many + 1, MANY):
                self.assertSame(least_row(table, house, other, most=most), told)
            for most in (1, 2, 3, many - 1):
                try:
                    self.assertSame(least_row(table, house, other, most=most), told) if most else None
                except TooGreat as error:
                    great += 1
                    self.assertEqual(error.most, most)
        self.assertGreater(great, 10)

    def test_wrong_values_in_order(self):
        table = Table(ROOMS.trade)
        for value in NO_SEQUENCES:
            self.fails(BadHouse(-1), least_row, table, value, None)
            self.fails(BadHouse(-1), least_row, table, (), value)
            self.fails(BadHouse(-1), parting_paper, table, value, None, None)
            self.fails(BadHouse(-1), parting_paper, table, (), value, None)
        for value in no_stands(ROOMS):
            self.fails(BadHouse(1), least_row, table, [0, value, value], [3])
            self.fails(BadHouse(0), parting_paper, table, [0], [value], 5)
        self.fails(BadHouse(6), least_row, table, [0] * 7, [3])
        for value in NO_STRINGS:
            self.fails(BadRow(-1), parting_paper, table, [0], [1], value)
        self.fails(BadRow(1), parting_paper, table, [], [1], "ac" + "a" * 400)
        self.fails(BadRow(200), parting_paper, table, [], [1], "a" * 201)
        self.fails(Refused(0), parting_paper, table, [], [0], "a")
        self.fails(Refused(0), parting_paper, table, [], [], "a")
        self.fails(Refused(1), parting_paper, table, [0], [1], "a")


def slow_parting(spec, paper):
    word, house, other, row, serving, fronts = paper
    if word != "parting" or list(house) != sorted(house) or list(other) != sorted(other) or len(row) > 200:
        return False
    if type(house) is not tuple or type(other) is not tuple or max(len(house), len(other)) > 6:
        return False
    if not all(0 <= stand < spec.stands for stand in house + other) or not all(sign in spec.letters for sign in row):
        return False
    told = [spec.front(other, row[:many]) for many in range(len(row) + 1)]
    if () not in told or fronts != tuple(told[:told.index(()) + 1]):
        return False
    return serving in [one for one, _ in spec.servings(house, row)]


class PartingPaperTest(Case):
    def papers(self, seed):
        dice = random.Random(seed)
        for spec in specs(seed + 1, 40) + TOLD:
            table = Table(spec.trade)
            for _ in range(5):
                house, other, row = random_house(dice, spec, 3), random_house(dice, spec, 3), random_row(dice, spec, 6)
                least = least_row(table, house, other)
                yield spec, table, house, other, row if least is None or dice.random() < 0.5 else least

    def test_papers(self):
        found = set()
        for spec, table, house, other, row in self.papers(346):
            servings = [serving for serving, _ in spec.servings(house, row)]
            found.add((servings == [], spec.serves(other, row)))
            if not servings:
                self.fails(Refused(0), parting_paper, table, house, other, row)
            elif spec.serves(other, row):
                self.fails(Refused(1), parting_paper, table, house, other, row)
            else:
                paper = self.agrees(parting_paper, table=table, house=list(house)[::-1], other=list(other), row=row)
                self.assertSame(paper[:5], ("parting", house, other, row, servings[0]))
                self.assertTrue(slow_parting(spec, paper))
                self.assertIs(self.agrees(parting_holds, trade=spec.trade, value=paper), True)
                for serving in servings:
                    self.assertIs(parting_holds(spec.trade, paper[:4] + (serving,) + paper[5:]), True)
        self.assertEqual(len(found), 4)

    def test_bent_papers(self):
        dice = random.Random(348)
        held = []
        for spec, table, house, other, row in self.papers(349):
            if spec.serves(house, row) and not spec.serves(other, row):
                for bent in bends(dice, parting_paper(table, house, other, row), 25):
                    held.append(is_shown_by(slow_parting, spec, bent))
                    self.assertIs(parting_holds(spec.trade, bent), held[-1], bent)
        self.assertGreater(held.count(True), 50)
        self.assertGreater(held.count(False), 500)
        for value in ANY:
            self.assertIs(parting_holds(ROOMS.trade, value), False)
        long = ("parting", (0,), (1,), "0" * 200 + "a", (0,), ((((1,),),) * 201 + ((),)))
        self.assertIs(parting_holds(Spec(2, {"a": [0, None]}, {"0": [0, 1]}).trade, long), False)


def slow_partings(spec, kind, first, second):
    one, other = choices(spec, kind, first, second)
    return spec.parting(one, other), spec.parting(other, one)


class StoryTest(Case):
    def test_partings_and_stories_of_two_stands(self):
        found = set()
        for spec in specs(351, 60) + TOLD:
            table = Table(spec.trade)
            for kind in spec.kinds:
                takers = [stand for stand in range(spec.stands) if spec.ways[kind][stand] is not None]
                for first, second in itertools.product(takers, repeat=2):
                    rows = slow_partings(spec, kind, first, second)
                    named = {"table": table, "kind": kind, "first": first, "second": second}
                    self.assertSame(self.agrees(two_partings, **named), rows)
                    p, q = sorted((first, second))
                    story = (kind, p, q) + slow_partings(spec, kind, p, q)
                    story = None if None in story else story
                    found.add((story is None, first == second))
                    self.assertSame(self.agrees(story_of, **named), story)
                    if story is not None:
                        self.assertTrue(spec.serves((p, q), kind + story[3]) and spec.serves((p, q), kind + story[4]))
        self.assertEqual(found, {(True, True), (True, False), (False, False)})

    def test_all_stories(self):
        silent = 0
        for spec in specs(352, 120) + TOLD:
            table = Table(spec.trade)
            told = [(kind, p, q) + slow_partings(spec, kind, p, q) for kind, p, q in clashes(table)]
            stories = tuple(story for story in told if None not in story)
            silent += len(told) > len(stories)
            self.assertSame(self.agrees(all_stories, table=table), stories)
            least = min([len(u) + len(v) for _, _, _, u, v in stories], default=0)
            least = [story for story in stories if len(story[3]) + len(story[4]) == least]
            self.assertSame(self.agrees(least_story, table=table), least[0] if least else None)
            self.assertIs(least_story(table) is None, is_rueless(table))
            for kind in spec.kinds:
                for p, q in itertools.combinations(range(spec.stands), 2):
                    if None not in (spec.ways[kind][p], spec.ways[kind][q]) and (kind, p, q) not in clashes(table):
                        self.assertIsNone(story_of(table, kind, p, q))
        self.assertGreater(silent, 0)

    def test_the_kinds_of_a_story(self):
        self.assertSame(self.agrees(story_kinds, story=("c", 0, 1, "b0a", "1")), "abc")
        self.assertSame(story_kinds(["d", 0, 1, "", "00"]), "d")
        for spec in specs(353, 40) + [CROSSED]:
            for story in all_stories(Table(spec.trade)):
                kinds = story_kinds(story)
                self.assertEqual(kinds, "".join(one for one in "abcd" if one in story[0] + story[3] + story[4]))
                self.assertIn(story, all_stories(Table(cut_kinds(spec.trade, kinds))))

    def test_most(self):
        great = 0
        for spec in specs(354, 60, stands=(2, 3)) + TOLD:
            table = Table(spec.trade)
            many = 1
            for kind, p, q in clashes(table):
                first, second = choices(spec, kind, p, q)
                many = max(many, len(pairs_met(spec, first, second)), len(pairs_met(spec, second, first)))
            stories = all_stories(table)
            self.assertSame(all_stories(table, most=many), stories)
            self.assertSame(least_story(table, most=many), least_story(table))
            for most in (1, 2, 4):
                for call in (all_stories, least_story):
                    try:
                        self.assertSame(call(table, most=most), call(table))
                    except TooGreat as error:
                        great += 1
                        self.assertEqual(error.most, most)
                        self.assertLess(most, many)
        self.assertGreater(great, 10)

    def test_wrong_values_in_order(self):
        table = Table(ROOMS.trade)
        for call in (two_partings, story_of):
            for value in no_letters("ab"):
                self.fails(NoLetter(value), call, table, value, None, None)
            for value in no_stands(ROOMS):
                self.fails(NoStand(value), call, table, "a", value, "x")
                self.fails(NoStand(value), call, table, "a", 2, value)
            self.fails(CannotTake("a"), call, table, "a", 2, 2)
            self.fails(CannotTake("b"), call, table, "b", 1, 0)
            self.fails(CannotTake("b"), call, table, "b", 0, 1)
            self.assertRaises(TypeError, call, table, "a", 0, 1, 5)


class StoryPaperTest(Case):
    def test_papers(self):
        many = 0
        for spec in specs(355, 60) + [CROSSED]:
            table = Table(spec.trade)
            for story in all_stories(table):
                many += 1
                kind, p, q, u, v = story
                first, second = choices(spec, kind, p, q)
                paper = self.agrees(story_paper, table=table, story=story)
                self.assertSame(paper, ("story", kind, p, q, parting_paper(table, first, second, u),
                                        parting_paper(table, second, first, v)))
                self.assertIs(self.agrees(story_holds, trade=spec.trade, value=paper), True)
                for letter in spec.letters:
                    longer = (kind, p, q, u + letter, v + letter)
                    if not spec.serves(first, u + letter):
                        self.fails(Refused(1), story_paper, table, longer)
                    elif not spec.serves(second, v + letter):
                        self.fails(Refused(2), story_paper, table, longer)
                    else:
                        self.assertIs(story_holds(spec.trade, story_paper(table, longer)), True)
        self.assertGreater(many, 20)

    def test_no_stories(self):
        table = Table(CROSSED.trade)
        story = ("c", 0, 1, "b", "a")
        self.assertSame(least_story(table), story)
        for value in ANY + [list(story), story[:4], story + ("",), ("c", 1, 0, "a", "b"), ("c", 0, 0, "b", "a"),
                            ("a", 0, 1, "b", "a"), ("c", 0, 2, "b", "a"), ("x", 0, 1, "b", "a"),
                            ("c", False, True, "b", "a"), ("cc", 0, 1, "b", "a"), (["c"], 0, 1, "b", "a")]:
            self.fails(Refused(0), story_paper, table, value)
        for value in ANY + ["bb", "b" * 201, "c"]:
            bent = ("c", 0, 1, value, "x")
            if value == "":
                self.fails(Refused(1), story_paper, table, bent)
            self.fails(Refused(1), story_paper, table, bent)
            if value != "a":
                self.fails(Refused(2), story_paper, table, ("c", 0, 1, "b", value))

    def test_bent_papers(self):
        def slow(spec, paper):
            word, kind, p, q, one, other = paper
            first, second = choices(spec, kind, p, q)
            return (word == "story" and len(kind) == 1 and kind in spec.kinds and 0 <= p < q < spec.stands
                    and slow_parting(spec, one) and slow_parting(spec, other) and one[1:3] == (first, second)
                    and other[1:3] == (second, first))

        dice = random.Random(356)
        held = []
        for spec in specs(357, 60) + [CROSSED]:
            table = Table(spec.trade)
            for story in all_stories(table)[:3]:
                for bent in bends(dice, story_paper(table, story), 40):
                    held.append(is_shown_by(slow, spec, bent))
                    self.assertIs(story_holds(spec.trade, bent), held[-1], bent)
        self.assertGreater(held.count(True), 50)
        self.assertGreater(held.count(False), 500)
        for value in without(ANY, lambda value: False):
            self.assertIs(story_holds(CROSSED.trade, value), False)


if __name__ == "__main__":
    unittest.main()
