import itertools
import random
import unittest

from helpers import (ANY, CROSSED, NO_SEQUENCES, RING, ROOMS, SILENT, STILL, TIDE, Case, Spec, bends, is_plain, no_letters,
                     specs, without)
from rueless.enough import is_enough
from rueless.errors import BadHouse, CannotTake, NoLetter, NoRoom, Refused, TooGreat
from rueless.houses import is_house
from rueless.ready import (Visit, helped, helped_holds, helped_paper, is_ready, least_ready, lost_ranks, plan_holds,
                           ranks_hold, ready_choice, ready_holds, ready_paper, ready_plan)
from rueless.stories import least_story
from rueless.trades import Trade
from rueless.twos import Table
from rueless.verdict import is_rueless
from rueless.wanted import Wants, wants_of_rows, wants_told
from test_enough import cases, houses_upto

CA_CB = Wants.of_rows(["ca", "cb"])
# Room 0 takes one a alone.
TWICE = Wants.of_rows(["ca", "aa"])
BEATS = Spec(3, {"a": [2, None, None], "b": [None, 2, None], "c": [2, 2, None]}, {"0": [1, 0, 2]})


def ways(spec, wants, pair):
    room, house = pair
    return {letter: [(stand, (wants.after(room, letter), behind)) for stand, behind in spec.choices(house, letter)]
            for letter in wants.letters_at(room)}


def all_pairs(spec, wants, start):
    queue = [start]
    for pair in queue:
        for _, found in sorted(ways(spec, wants, pair).items()):
            queue += [behind for _, behind in dict.fromkeys(found) if behind not in queue]
    return list(dict.fromkeys(queue))


def slow_ranks(spec, wants, start):
    """In how many letters each pair is lost at least, by the words: round by round over all pairs."""
    pairs = all_pairs(spec, wants, start)
    ranks = {}
    rank = 0
    while True:
        rank += 1
        fresh = [pair for pair in pairs if pair not in ranks and any(
            all(behind in ranks for _, behind in found) for found in ways(spec, wants, pair).values())]
        if not fresh:
            return ranks
        ranks.update({pair: rank for pair in fresh})


def slow_plan(spec, wants, start, ranks):
    plan = {}
    queue = [start]
    for pair in queue:
        for letter, found in ways(spec, wants, pair).items():
            stand, behind = next((stand, behind) for stand, behind in found if behind not in ranks)
            if stand is not None:
                plan[pair + (letter,)] = stand
            if behind not in queue:
                queue.append(behind)
    return tuple(sorted(plan.items()))


def slow_lost(spec, wants, start, ranks):
    rows = {}
    queue = [start]
    for pair in queue:
        letter = next(letter for letter, found in sorted(ways(spec, wants, pair).items(), key=lambda one: "abcd01".index(one[0]))
                      if all(ranks.get(behind, 10 ** 9) < ranks[pair] for _, behind in found))
        rows[pair] = letter
        queue += [behind for _, behind in ways(spec, wants, pair)[letter] if behind not in queue]
    return tuple(sorted((pair, letter, ranks[pair]) for pair, letter in rows.items()))


class ReadyTest(Case):
    def test_plans_and_ranks(self):
        found = set()
        for dice, spec, wants in cases(1040, 60):
            for _ in range(4):
                house = [dice.randrange(spec.stands) for _ in range(dice.randrange(4))]
                start = (0, tuple(sorted(house)))
                ranks = slow_ranks(spec, wants, start)
                plan = self.agrees(ready_plan, trade=spec.trade, wants=wants, house=house)
                lost = self.agrees(lost_ranks, trade=spec.trade, wants=wants, house=house)
                self.assertIs(self.agrees(is_ready, trade=spec.trade, wants=wants, house=house), start not in ranks)
                if start in ranks:
                    self.assertSame((plan, lost), (None, slow_lost(spec, wants, start, ranks)))
                    self.assertSame(ready_paper(spec.trade, wants, house), ("ranks", lost))
                else:
                    self.assertSame((plan, lost), (slow_plan(spec, wants, start, ranks), None))
                    self.assertSame(self.agrees(ready_paper, trade=spec.trade, wants=wants, house=house), ("plan", plan))
                    self.assertIs(is_enough(spec.trade, wants, house), True)
                found.add((start in ranks, is_enough(spec.trade, wants, house), ranks.get(start, 0) > 2))
        self.assertTrue({(False, True, False), (True, False, False), (True, False, True)} <= found, found)

    def test_choices(self):
        found = set()
        for dice, spec, wants in cases(1041, 60):
            for _ in range(6):
                room = dice.randrange(wants.rooms)
                house = [dice.randrange(spec.stands) for _ in range(dice.randrange(4))]
                for kind in without(wants.letters_at(room), lambda letter: letter in "01"):
                    led = ways(spec, wants, (room, tuple(sorted(house))))[kind]
                    kept = [stand for stand, behind in led if behind not in slow_ranks(spec, wants, behind)]
                    told = self.agrees(ready_choice, trade=spec.trade, wants=wants, room=room, house=house, kind=kind)
                    self.assertSame(told, kept[0] if kept else None)
                    found.add((led == [], kept == [], kept[:1] == [stand for stand, _ in led][:1]))
        self.assertTrue({(False, False, True), (False, False, False), (False, True, False), (True, True, True)} <= found, found)

    def test_in_rueless_trades_knowing_never_helps(self):
        many = 0
        for dice, spec, wants in cases(1042, 60):
            if is_rueless(Table(spec.trade)):
                house = [dice.randrange(spec.stands) for _ in range(dice.randrange(4))]
                self.assertIs(is_ready(spec.trade, wants, house), is_enough(spec.trade, wants, house))
                many += is_ready(spec.trade, wants, house)
        self.assertGreater(many, 5)

    def test_knowing_helps(self):
        self.assertIs(is_ready(CROSSED.trade, CA_CB, (0, 1)), False)
        self.assertSame(ready_plan(CROSSED.trade, TWICE, (0, 1)), None)
        self.assertSame(ready_plan(CROSSED.trade, Wants.of_rows(["ca", "ac"]), [1, 0]),
                        (((0, (0, 1), "a"), 0), ((0, (0, 1), "c"), 1), ((1, (1, 2), "c"), 1), ((2, (0, 2), "a"), 0)))
        self.assertSame(lost_ranks(CROSSED.trade, CA_CB, (0, 1)),
                        (((0, (0, 1)), "c", 2), ((1, (0, 2)), "b", 1), ((1, (1, 2)), "a", 1)))

    def test_least(self):
        found = set()
        for dice, spec, wants in cases(1043, 40, stands=(2, 3)):
            for places in range(4):
                ready = [house for house in houses_upto(spec, places)
                         if (0, house) not in slow_ranks(spec, wants, (0, house))]
                least = tuple(house for house in ready
                              if not any(house[:at] + house[at + 1:] in ready for at in range(len(house))))
                self.assertSame(self.agrees(least_ready, trade=spec.trade, wants=wants, places=places), least)
                found.add(tuple(sorted({len(house) for house in least})))
        self.assertTrue({(), (0,), (1,), (2,)} <= found, found)

    def test_wrong_values_in_order(self):
        wants = Wants([[("a", 0), ("d", 0)]])
        for call in (ready_plan, is_ready, lost_ranks, ready_paper, least_ready, Visit):
            self.fails(NoLetter("d"), call, ROOMS.trade, wants, None)
        for call in (plan_holds, ranks_hold, ready_holds):
            self.fails(NoLetter("d"), call, ROOMS.trade, wants, None, None)
        self.fails(NoLetter("d"), ready_choice, ROOMS.trade, wants, None, None, None)
        wants = Wants([[("a", 1), ("0", 0)], [("b", 0)]])
        for value in NO_SEQUENCES:
            for call in (ready_plan, is_ready, lost_ranks, ready_paper, Visit):
                self.fails(BadHouse(-1), call, TIDE.trade, wants, value)
            for call in (plan_holds, ranks_hold, ready_holds):
                self.fails(BadHouse(-1), call, TIDE.trade, wants, value, None)
            self.fails(BadHouse(-1), ready_choice, TIDE.trade, wants, 1, value, None)
        for value in without(ANY, lambda one: type(one) is int and 0 <= one < 2) + [2]:
            self.fails(NoRoom(value), ready_choice, TIDE.trade, wants, value, None, None)
        for value in no_letters("a") + ["b", "0"]:
            self.fails(CannotTake(value), ready_choice, TIDE.trade, wants, 0, (0, 1), value)
        for value in without(ANY, lambda one: type(one) is int and 0 <= one <= 6):
            self.fails(Refused(value), least_ready, TIDE.trade, wants, value)
        self.assertSame(least_ready(ROOMS.trade, Wants([[("a", 0)]]), 6), ())
        self.fails(Refused(5), least_ready, Trade(7, {"a": [6] * 6 + [None]}), Wants([[]]), 5)


def slow_plan_holds(spec, wants, start, value):
    for row in value:
        (room, house, kind), stand = row
        if type(room) is not int or not 0 <= room < wants.rooms or not is_house(spec.trade, house):
            return False
        if kind not in list(spec.kinds) or type(stand) is not int or not 0 <= stand < spec.stands:
            return False
    if len({row[0] for row in value}) < len(value):
        return False
    plan = dict(value)
    queue = [start]
    for pair in queue:
        for letter, found in ways(spec, wants, pair).items():
            led = [behind for stand, behind in found if stand is None or stand == plan.get(pair + (letter,))]
            if not led:
                return False
            queue += [one for one in led if one not in queue]
    return True


def slow_ranks_hold(spec, wants, start, value):
    for (room, house), letter, rank in value:
        if type(room) is not int or not 0 <= room < wants.rooms or not is_house(spec.trade, house):
            return False
        if letter not in list(wants.letters_at(room)) or type(rank) is not int or rank < 1:
            return False
    ranks = {pair: rank for pair, _, rank in value}
    if len(ranks) < len(value) or start not in ranks:
        return False
    return all(behind in ranks and ranks[behind] < rank
               for pair, letter, rank in value for _, behind in ways(spec, wants, pair)[letter])


def is_shown(slow, spec, wants, start, value):
    """Whether a slow check holds; it may fail in any way if the form of the value is wrong."""
    try:
        return is_plain(value) and type(value) is tuple and slow(spec, wants, start, value)
    except (TypeError, ValueError, IndexError, KeyError):
        return False


class PapersTest(Case):
    def test_bent_plans_and_ranks(self):
        dice = random.Random(1044)
        held = {"plan": [], "ranks": []}
        for _, spec, wants in cases(1045, 60):
            for _ in range(3):
                house = tuple(sorted(dice.randrange(spec.stands) for _ in range(dice.randrange(4))))
                word, told = paper = ready_paper(spec.trade, wants, house)
                check, slow = {"plan": (plan_holds, slow_plan_holds), "ranks": (ranks_hold, slow_ranks_hold)}[word]
                other = {"plan": ranks_hold, "ranks": plan_holds}[word]
                self.assertIs(other(spec.trade, wants, house, told), False)
                for bent in bends(dice, told, 20):
                    held[word].append(is_shown(slow, spec, wants, (0, house), bent))
                    self.assertIs(check(spec.trade, wants, list(house)[::-1], bent), held[word][-1], bent)
                    self.assertIs(ready_holds(spec.trade, wants, house, (word, bent)), held[word][-1])
                for bent in bends(dice, paper, 5):
                    if bent != paper and (type(bent) is not tuple or bent[:1] != (word,) or len(bent) != 2):
                        self.assertIs(ready_holds(spec.trade, wants, house, bent), False)
        for word in held:
            self.assertGreater(held[word].count(True), 60)
            self.assertGreater(held[word].count(False), 100)

    def test_other_plans(self):
        wants = Wants.of_rows(["ca", "ac"])
        plan = ready_plan(CROSSED.trade, wants, (0, 1))
        more = plan + (((2, (), "b"), 1), ((2, (2,) * 6, "a"), 2))
        self.assertIs(plan_holds(CROSSED.trade, wants, (0, 1), more[::-1]), True)
        for row in [((5, (0,), "a"), 0), ((0, (0, 3), "a"), 0), ((0, (1, 0), "a"), 0), ((0, (0,), "d"), 0), ((0, (0,), "a"), 3),
                    ((0, (0,), "0"), 0), ((0, (0,), "a"), True), ((False, (0,), "a"), 0), plan[0], ((0, [0], "a"), 0),
                    ((0, (0,), "a"),), [(0, (0,), "a"), 0], ((0, (0,)), 0), None]:
            self.assertIs(plan_holds(CROSSED.trade, wants, (0, 1), plan + (row,)), False)
        for at in range(len(plan)):
            self.assertIs(plan_holds(CROSSED.trade, wants, (0, 1), plan[:at] + plan[at + 1:]), False)
        # A stand that keeps less than the least one, but enough: c may take room 0 if a never comes behind it.
        wants = Wants.of_rows(["c"])
        for stand in (0, 1, 2):
            self.assertIs(plan_holds(CROSSED.trade, wants, (0, 1, 2), (((0, (0, 1, 2), "c"), stand),)), stand < 2)
        # Beats need no row.
        self.assertIs(plan_holds(SILENT.trade, Wants([[("0", 0)]]), (0,), ()), True)
        self.assertIs(ready_holds(SILENT.trade, Wants([[("0", 0)]]), (0,), ("plan", ())), True)
        self.assertIs(ready_holds(SILENT.trade, Wants([[("0", 0)]]), (0,), ("ranks", ())), False)

    def test_other_ranks(self):
        ranks = lost_ranks(CROSSED.trade, CA_CB, (0, 1))
        first, second, third = ranks
        for told, holds in [((third, second, first), True), ((first[:2] + (9,), second[:2] + (8,), third[:2] + (3,)), True),
                            ((first[:2] + (1,), second, third), False), ((first, second), False), ((second, third), False),
                            (ranks + (((1, (2, 2)), "b", 5),), True), (ranks + (((1, (0, 1)), "b", 5),), False),
                            (ranks + (second,), False), ((first, second[:2] + (0,), third), False),
                            ((first, second[:1] + ("c", 1), third), False), (list(ranks), False),
                            (ranks + (((2, (2,)), "b", 5),), False), ((first, second, third[:2] + (True,)), False)]:
            self.assertIs(ranks_hold(CROSSED.trade, CA_CB, (0, 1), told), holds, told)
        # A beat loses what it leads to.
        wants = Wants([[("0", 1)], [("c", 2)], [("a", 3), ("b", 3)], []])
        lost = lost_ranks(BEATS.trade, wants, (0, 1))
        self.assertSame(lost[0], ((0, (0, 1)), "0", 3))
        self.assertIs(ranks_hold(BEATS.trade, wants, (0, 1), lost), True)
        for value in ANY:
            for call in (plan_holds, ranks_hold, ready_holds):
                self.assertIs(call(CROSSED.trade, CA_CB, (0, 1), value), False)
            for word in ("plan", "ranks"):
                self.assertIs(ready_holds(CROSSED.trade, CA_CB, (0, 1), (word, value)), False)


class HelpedTest(Case):
    def test_helped(self):
        dice = random.Random(1046)
        found = set()
        held = []
        for spec in specs(1047, 60, stands=(2, 3), kinds=("a", "ab", "abc"), beats=("", "0")) + [CROSSED, RING, STILL, BEATS]:
            table = Table(spec.trade)
            told = helped(table=table)
            story = least_story(table)
            found.add(story is None)
            if story is None:
                self.assertIsNone(told)
                self.fails(Refused(-1), helped_paper, table)
                continue
            kind, p, q, u, v = story
            wants, house = told
            self.assertEqual(wants, Wants.of_rows([kind + u, kind + v]))
            self.assertSame(house, (p, q))
            self.assertIs(is_enough(spec.trade, wants, house), True)
            self.assertIs(is_ready(spec.trade, wants, house), False)
            paper = self.agrees(helped_paper, table=table)
            self.assertSame(paper, ("helped", wants.ways, house, lost_ranks(spec.trade, wants, house)))
            for bent in bends(dice, paper, 15):
                held.append(slow_helped_holds(spec, bent))
                self.assertIs(helped_holds(spec.trade, bent), held[-1], bent)
        self.assertEqual(found, {True, False})
        self.assertGreater(held.count(True), 10)
        self.assertGreater(held.count(False), 100)
        self.assertSame(helped_paper(Table(CROSSED.trade)), ("helped", Wants.of_rows(["cb", "ca"]).ways, (0, 1), (
            ((0, (0, 1)), "c", 2), ((1, (0, 2)), "b", 1), ((1, (1, 2)), "a", 1))))

    def test_other_papers(self):
        word, ways_told, house, ranks = helped_paper(Table(CROSSED.trade))
        more = tuple(tuple(room) for room in ways_told) + ((("a", 5),), (("b", 4),))
        self.assertIs(helped_holds(CROSSED.trade, (word, more, house, ranks)), True)
        self.assertIs(helped_holds(CROSSED.trade, (word, more + ((("d", 0),),), house, ranks)), False)
        self.assertIs(helped_holds(CROSSED.trade, (word, more + ((),) * 34, house, ranks)), True)
        self.assertIs(helped_holds(CROSSED.trade, (word, more + ((),) * 35, house, ranks)), False)
        # The house must be enough, and have two places.
        wants = Wants.of_rows(["cb", "ca", "cc"])
        self.assertIs(helped_holds(CROSSED.trade, (word, wants.ways, house, ranks)), True)
        wants = Wants.of_rows(["cb", "ca", "aaa"])
        self.assertIs(ranks_hold(CROSSED.trade, wants, house, lost_ranks(CROSSED.trade, wants, house)), True)
        self.assertIs(helped_holds(CROSSED.trade, (word, wants.ways, house, lost_ranks(CROSSED.trade, wants, house))), False)
        for other in ((0, 1, 2), (1, 0), [0, 1], (0,), (0, 0), None):
            self.assertIs(helped_holds(CROSSED.trade, (word, ways_told, other, ranks)), False)
        three = (0, 1, 2)
        lost = lost_ranks(CROSSED.trade, CA_CB, three)
        self.assertIs(ranks_hold(CROSSED.trade, CA_CB, three, lost), True)
        self.assertIs(helped_holds(CROSSED.trade, (word, CA_CB.ways, three, lost)), False)
        paper = helped_paper(Table(CROSSED.trade))
        for value in ANY + [list(paper), paper[:3], paper + ((),), ("plan",) + paper[1:]]:
            self.assertIs(helped_holds(CROSSED.trade, value), False)
            for at in range(4):
                if value != paper[at]:
                    self.assertIs(helped_holds(CROSSED.trade, paper[:at] + (value,) + paper[at + 1:]), False)

    def test_stories_that_are_too_long(self):
        # Rows of stories are no rows that are told: what is wrong with long ones is that they need too many rooms.
        self.fails(TooGreat(40), wants_of_rows, ["a" + "0" * 250, "ab"])


def slow_helped_holds(spec, value):
    if not is_plain(value) or type(value) is not tuple or len(value) != 4 or value[0] != "helped":
        return False
    wants = wants_told(value[1])
    if wants is None or set(wants.letters) - set(spec.letters):
        return False
    if not is_house(spec.trade, value[2]) or len(value[2]) != 2:
        return False
    return (is_shown(slow_ranks_hold, spec, wants, (0, value[2]), value[3])
            and is_enough(spec.trade, wants, value[2]))


class VisitTest(Case):
    def test_visits(self):
        dice = random.Random(1048)
        many = 0
        for _, spec, wants in cases(1049, 60):
            house = [dice.randrange(spec.stands) for _ in range(dice.randrange(1, 4))]
            plan = ready_plan(spec.trade, wants, house)
            if plan is None:
                self.fails(Refused(-1), Visit, spec.trade, wants, house)
                continue
            visit, other = Visit(spec.trade, wants, house), Visit(trade=spec.trade, wants=wants, house=house)
            start = (0, tuple(sorted(house)))
            self.assertSame((visit.room, visit.house), start)
            past = [start]
            for _ in range(12):
                for value in no_letters(wants.letters_at(visit.room)):
                    self.fails(Refused(value), visit.come, value)
                self.assertSame((visit.room, visit.house), past[-1])
                if dice.random() < 0.3 or not wants.letters_at(visit.room):
                    self.assertIs(visit.undo(), len(past) > 1)
                    past = past[:-1] or past
                else:
                    letter = dice.choice(wants.letters_at(visit.room))
                    stand = visit.come(letter=letter)
                    self.assertSame(stand, dict(plan).get(past[-1] + (letter,)))
                    past.append(dict(ways(spec, wants, past[-1])[letter])[stand])
                    many += stand is not None
                self.assertSame((visit.room, visit.house), past[-1])
            self.assertSame((other.room, other.house), start)
        self.assertGreater(many, 40)

    def test_undo(self):
        visit = Visit(CROSSED.trade, Wants.of_rows(["ca", "ac"]), [1, 0])
        self.assertIs(visit.undo(), False)
        self.assertSame((visit.come("c"), visit.room, visit.house), (1, 2, (0, 2)))
        self.fails(Refused("c"), visit.come, "c")
        self.assertSame((visit.come("a"), visit.house), (0, (2, 2)))
        self.assertSame((visit.undo(), visit.room, visit.house), (True, 2, (0, 2)))
        self.assertSame((visit.undo(), visit.room, visit.house), (True, 0, (0, 1)))
        self.assertSame((visit.undo(), visit.come("a"), visit.room, visit.house), (False, 0, 1, (1, 2)))


if __name__ == "__main__":
    unittest.main()
