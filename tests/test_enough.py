import itertools
import random
import unittest

from helpers import (ANY, CROSSED, NO_SEQUENCES, RING, ROOMS, SILENT, STILL, TIDE, Case, Spec, bends, is_plain, specs,
                     without)
from rueless.enough import (cheapest, enough_holds, enough_paper, is_enough, least_enough, lesser_rows, missed, missed_holds,
                            missed_paper, walked_missed)
from rueless.errors import BadHouse, BadPrices, BadRow, NoLetter, Refused, TooGreat
from rueless.houses import is_house
from rueless.places import covering
from rueless.rows import fronts
from rueless.stewards import Steward
from rueless.trades import Trade
from rueless.twos import Table
from rueless.verdict import is_rueless
from rueless.wanted import Wants, wants_told

TOLD = [CROSSED, RING, ROOMS, SILENT, STILL, TIDE]
MOST = 10 ** 6


def random_wants(dice, letters, rooms=4):
    many = dice.randrange(1, rooms + 1)
    return Wants([[(letter, dice.randrange(many)) for letter in letters if dice.random() < 0.5] for _ in range(many)])


def cases(seed, many, stands=(2, 3, 4)):
    dice = random.Random(seed)
    for spec in specs(seed + 1, many, stands=stands, kinds=("a", "ab", "abc"), beats=("", "0"), empty=0.35) + TOLD:
        wants = random_wants(dice, spec.letters)
        if dice.random() < 0.4 and spec.letters:
            rows = ["".join(dice.choice(spec.letters) for _ in range(dice.randrange(5))) for _ in range(dice.randrange(4))]
            wants = Wants.of_rows(rows)
        yield dice, spec, wants


def slow_missed(spec, wants, house):
    """The first wanted row that is not served, and how many pairs of a room and a front there are."""
    level = [("", 0, (tuple(sorted(house)),))]
    seen = {level[0][1:]}
    found = None
    while level:
        following = []
        for row, room, front in level:
            for letter in wants.letters_at(room):
                pair = (wants.after(room, letter),
                        tuple(sorted({behind for one in front for behind in spec.moves(one, letter)})))
                if pair[1] == () and found is None:
                    found = row + letter
                if pair not in seen:
                    seen.add(pair)
                    if pair[1]:
                        following.append((row + letter,) + pair)
        level = following
    return found, len(seen)


def houses_upto(spec, places):
    return [house for many in range(places + 1)
            for house in itertools.combinations_with_replacement(range(spec.stands), many)]


def lies_in(one, other):
    return all(one.count(stand) <= other.count(stand) for stand in one)


def slow_least(spec, wants, places):
    enough = [house for house in houses_upto(spec, places) if slow_missed(spec, wants, house)[0] is None]
    return tuple(house for house in enough
                 if not any(house[:at] + house[at + 1:] in enough for at in range(len(house))))


class MissedTest(Case):
    def test_missed(self):
        lengths = set()
        for dice, spec, wants in cases(1020, 60):
            for _ in range(4):
                house = [dice.randrange(spec.stands) for _ in range(dice.randrange(4))]
                row, _ = slow_missed(spec, wants, house)
                self.assertSame(self.agrees(missed, trade=spec.trade, wants=wants, house=house), row)
                self.assertIs(self.agrees(is_enough, trade=spec.trade, wants=wants, house=house), row is None)
                lengths.add(None if row is None else len(row))
        self.assertTrue({None, 1, 2, 3} <= lengths, lengths)

    def test_walked(self):
        many = 0
        for dice, spec, wants in cases(1021, 90):
            table = Table(spec.trade)
            if is_rueless(table):
                steward = Steward(table)
                for _ in range(4):
                    house = [dice.randrange(spec.stands) for _ in range(dice.randrange(4))]
                    row = self.agrees(walked_missed, steward=steward, wants=wants, house=house)
                    self.assertSame(row, missed(spec.trade, wants, house))
                    many += row is not None and len(row) > 1
        self.assertGreater(many, 10)

    def test_what_covers_is_enough(self):
        many = 0
        for dice, spec, wants in cases(1022, 40):
            for _ in range(10):
                one, two = [[dice.randrange(spec.stands) for _ in range(dice.randrange(4))] for _ in range(2)]
                if covering(spec.trade, one, two) is not None and is_enough(spec.trade, wants, one):
                    self.assertIs(is_enough(spec.trade, wants, two), True)
                    many += 1
        self.assertGreater(many, 20)

    def test_houses_of_no_places(self):
        self.assertSame((missed(CROSSED.trade, Wants([[]]), ()), missed(CROSSED.trade, Wants([[("c", 0)]]), [])), (None, "c"))
        beats = Wants([[("0", 0)]])
        self.assertIsNone(missed(TIDE.trade, beats, ()))
        self.assertSame(least_enough(TIDE.trade, beats, 3), ((),))
        self.assertSame(lesser_rows(TIDE.trade, beats, ()), ())
        self.assertSame(cheapest(TIDE.trade, beats, 2, [0, 0, 0]), (0, ()))

    def test_most(self):
        many = 0
        for dice, spec, wants in cases(1023, 40):
            house = [dice.randrange(spec.stands) for _ in range(3)]
            row, pairs = slow_missed(spec, wants, house)
            for most in {1, 2, 3, pairs - 1, pairs, pairs + 1} - {0}:
                for call, told in ((missed, row), (is_enough, row is None)):
                    try:
                        self.assertSame(call(spec.trade, wants, house, most=most), told)
                    except TooGreat as error:
                        self.assertEqual(error.most, most)
                        self.assertLess(most, pairs)
                        many += 1
        self.assertGreater(many, 20)

    def test_letters_that_the_trade_lacks(self):
        wants = Wants([[("a", 0), ("d", 0), ("1", 0)]])
        table = Table(ROOMS.trade)
        for call in (missed, is_enough, lesser_rows, missed_paper):
            self.fails(NoLetter("d"), call, ROOMS.trade, wants, None)
        for call in (least_enough, enough_paper):
            self.fails(NoLetter("d"), call, ROOMS.trade, wants, None)
        self.fails(NoLetter("d"), cheapest, ROOMS.trade, wants, None, None)
        self.fails(NoLetter("d"), missed_holds, ROOMS.trade, wants, None, None)
        self.fails(NoLetter("d"), enough_holds, ROOMS.trade, wants, None, None)
        self.fails(NoLetter("d"), walked_missed, Steward(table), wants, None)
        self.fails(NoLetter("1"), missed, TIDE.trade, Wants([[], [("1", 0)]]), (0,))

    def test_wrong_houses_and_places(self):
        wants = Wants([[("a", 0)]])
        for value in NO_SEQUENCES:
            for call in (missed, is_enough, lesser_rows, missed_paper):
                self.fails(BadHouse(-1), call, ROOMS.trade, wants, value)
            self.fails(BadHouse(-1), missed_holds, ROOMS.trade, wants, value, None)
            self.fails(BadHouse(-1), walked_missed, Steward(Table(ROOMS.trade)), wants, value)
        self.fails(BadHouse(1), missed, ROOMS.trade, wants, (0, 3))
        self.fails(BadHouse(6), missed, ROOMS.trade, wants, (0,) * 7)
        for value in without(ANY, lambda one: type(one) is int and 0 <= one <= 6):
            for call in (least_enough, enough_paper):
                self.fails(Refused(value), call, ROOMS.trade, wants, value)
            self.fails(Refused(value), cheapest, ROOMS.trade, wants, value, None)
            self.fails(Refused(value), enough_holds, ROOMS.trade, wants, value, None)
        greater = Trade(7, {"a": [6] * 6 + [None]})
        self.fails(Refused(5), least_enough, greater, wants, 5)


class LeastTest(Case):
    def test_least(self):
        found = set()
        for dice, spec, wants in cases(1024, 40, stands=(2, 3)):
            for places in range(4):
                told = slow_least(spec, wants, places)
                self.assertSame(self.agrees(least_enough, trade=spec.trade, wants=wants, places=places), told)
                found.add(tuple(sorted({len(house) for house in told})))
        self.assertTrue({(), (0,), (1,), (2,), (1, 2)} <= found, found)

    def test_lesser_rows(self):
        many = 0
        for dice, spec, wants in cases(1025, 90, stands=(2, 3, 4)):
            least = slow_least(spec, wants, 3)
            for house in houses_upto(spec, 3):
                if slow_missed(spec, wants, house)[0] is not None:
                    self.fails(Refused(-1), lesser_rows, spec.trade, wants, house)
                    continue
                rows = [(stand, slow_missed(spec, wants, without_one(house, stand))[0]) for stand in sorted(set(house))]
                out = [stand for stand, row in rows if row is None]
                if out:
                    self.fails(Refused(out[0]), lesser_rows, spec.trade, wants, list(house))
                    continue
                self.assertIn(house, least)
                self.assertSame(self.agrees(lesser_rows, trade=spec.trade, wants=wants, house=list(house)[::-1]), tuple(rows))
                many += len(rows) > 1
        self.assertGreater(many, 5)

    def test_cheapest(self):
        found = set()
        for dice, spec, wants in cases(1026, 40, stands=(2, 3)):
            for places in range(4):
                prices = [dice.choice([0, 1, 1, 2, 5]) for _ in range(spec.stands)]
                enough = [house for house in houses_upto(spec, places) if slow_missed(spec, wants, house)[0] is None]
                told = min([(sum(prices[stand] for stand in house), len(house), house) for house in enough], default=None)
                got = self.agrees(cheapest, trade=spec.trade, wants=wants, places=places, prices=prices)
                self.assertSame(got, None if told is None else (told[0], told[2]))
                found.add(got is None or len(got[1]))
        self.assertEqual(found, {True, 0, 1, 2, 3})

    def test_wrong_prices(self):
        wants = Wants([[("a", 0)]])
        for value in NO_SEQUENCES + [(1, 2), [1, 2, 3, 4], ()]:
            self.fails(BadPrices(-1), cheapest, ROOMS.trade, wants, 2, value)
        for value in without(ANY, lambda one: type(one) is int and 0 <= one <= MOST) + [MOST + 1]:
            self.fails(BadPrices(1), cheapest, ROOMS.trade, wants, 2, [0, value, None])
        self.assertSame(cheapest(ROOMS.trade, Wants.of_rows(["a"]), 6, (MOST, MOST, 0)), (MOST, (0,)))

    def test_too_great(self):
        wants = Wants([[("a", 0), ("b", 0), ("0", 0)]])
        self.fails(TooGreat(1), least_enough, TIDE.trade, wants, 3, most=1)
        self.fails(TooGreat(1), cheapest, TIDE.trade, wants, 3, [1, 1, 1], most=1)
        self.fails(TooGreat(1), lesser_rows, TIDE.trade, Wants.of_rows(["ba"]), (0, 1, 1), most=1)


def without_one(house, stand):
    at = house.index(stand)
    return house[:at] + house[at + 1:]


def is_missed_row(spec, wants, house, row):
    return (type(row) is str and len(row) <= 200 and all(letter in "abcd01" for letter in row)
            and wants.wants_row(row) and not spec.serves(house, row))


def slow_enough_holds(spec, wants, places, value):
    if not is_plain(value) or type(value) is not tuple or len(value) != 3 or value[0] != "least":
        return False
    _, houses, rests = value
    if type(houses) is not tuple or houses != slow_least(spec, wants, places) or type(rests) is not tuple:
        return False
    told = [house for house in houses_upto(spec, places) if not any(lies_in(one, house) for one in houses)]
    if not all(type(rest) is tuple and len(rest) == 2 for rest in rests) or [rest[0] for rest in rests] != told:
        return False
    return all(is_missed_row(spec, wants, house, row) for house, row in rests)


class PapersTest(Case):
    def test_missed_papers(self):
        dice = random.Random(1027)
        found = set()
        for _, spec, wants in cases(1028, 50):
            house = tuple(sorted(dice.randrange(spec.stands) for _ in range(dice.randrange(4))))
            row = missed(spec.trade, wants, house)
            if row is None:
                self.fails(Refused(-1), missed_paper, spec.trade, wants, house)
                paper = ("missed", "a", (((0,),), ()))
            else:
                paper = self.agrees(missed_paper, trade=spec.trade, wants=wants, house=list(house)[::-1])
                self.assertSame(paper, ("missed", row, fronts(spec.trade, house, row)))
                self.assertIs(missed_holds(spec.trade, wants, list(house)[::-1], paper), True)
            for bent in bends(dice, paper, 40):
                told = (type(bent) is tuple and len(bent) == 3 and is_plain(bent) and bent[0] == "missed"
                        and is_missed_row(spec, wants, house, bent[1]) and bent[2] == fronts(spec.trade, house, bent[1]))
                self.assertIs(missed_holds(spec.trade, wants, house, bent), told, bent)
                found.add(told)
        self.assertEqual(found, {True, False})
        # Any wanted row that is not served will do, with all its fronts.
        wants = Wants.of_rows(["aab"])
        self.assertSame(missed_paper(ROOMS.trade, wants, (0, 1)), ("missed", "aab", fronts(ROOMS.trade, (0, 1), "aab")))
        self.assertIs(missed_holds(ROOMS.trade, wants, (0,), ("missed", "aab", fronts(ROOMS.trade, (0,), "aab"))), True)
        self.assertIs(missed_holds(ROOMS.trade, wants, (0,), ("missed", "aab", fronts(ROOMS.trade, (0,), "aa"))), False)
        self.assertIs(missed_holds(ROOMS.trade, wants, (0,), ("missed", "ab", fronts(ROOMS.trade, (0,), "ab"))), False)
        self.assertIs(missed_holds(ROOMS.trade, wants, (0,), ("missed", "a", fronts(ROOMS.trade, (0,), "a"))), False)
        for value in ANY:
            self.assertIs(missed_holds(ROOMS.trade, wants, (0,), value), False)
            self.assertIs(missed_holds(ROOMS.trade, wants, (0,), ("missed", value, ())), False)
            self.assertIs(missed_holds(ROOMS.trade, wants, (0,), ("missed", "aa", value)), False)

    def test_rows_that_are_too_long(self):
        # A comer comes at each 37th beat, and finds the place in its one bad stand behind 6 times 37 of them.
        rooms = [[("0", (room + 1) - 37 * (room == 36))] for room in range(37)]
        rooms[0] = [("a", 37)] + rooms[0]
        wants = wants_told(tuple(tuple(pairs) for pairs in rooms + [[]]))
        trade = Trade(8, {"a": [7, 7, 7, 7, 7, None, 7, None]}, {"0": [1, 2, 3, 4, 5, 6, 0, 7]})
        row = "0" * 222 + "a"
        self.assertSame(missed(trade, wants, (0,)), row)
        self.fails(BadRow(200), missed_paper, trade, wants, (0,))
        paper = enough_paper(trade, wants, 1)
        self.assertIn(((0,), row), paper[2])
        self.assertIs(enough_holds(trade, wants, 1, paper), False)
        self.assertIs(missed_holds(trade, wants, (0,), ("missed", row, ())), False)
        self.assertSame(least_enough(trade, wants, 2), ((0, 1), (0, 2), (0, 3), (0, 4), (0, 5), (0, 6), (1, 2), (1, 3),
                                                        (1, 4), (1, 5), (1, 6), (2, 3), (2, 4), (2, 5), (2, 6), (3, 4),
                                                        (3, 5), (3, 6), (4, 5), (4, 6), (5, 6)))

    def test_enough_papers(self):
        dice = random.Random(1029)
        held = []
        for _, spec, wants in cases(1030, 30, stands=(2, 3)):
            places = dice.randrange(4)
            paper = self.agrees(enough_paper, trade=spec.trade, wants=wants, places=places)
            self.assertSame(paper[:2], ("least", slow_least(spec, wants, places)))
            rests = [house for house in houses_upto(spec, places) if not any(lies_in(one, house) for one in paper[1])]
            self.assertSame(paper[2], tuple((house, slow_missed(spec, wants, house)[0]) for house in rests))
            for bent in bends(dice, paper, 40):
                held.append(slow_enough_holds(spec, wants, places, bent))
                self.assertIs(enough_holds(spec.trade, wants, places, bent), held[-1], bent)
        self.assertGreater(held.count(True), 40)
        self.assertGreater(held.count(False), 200)

    def test_other_enough_papers(self):
        wants = Wants.of_rows(["aa", "ba", "ab"])
        paper = enough_paper(ROOMS.trade, wants, 2)
        self.assertSame(paper[1], ((0, 1), (1, 1)))
        rests = {house: row for house, row in paper[2]}
        self.assertSame((rests[(0,)], rests[(1, 2)]), ("b", "aa"))
        for house, row, holds in [((1, 2), "ba", True), ((1, 2), "ab", True), ((1, 2), "a", False), ((1, 2), "bb", False)]:
            told = tuple((one, row if one == house else rests[one]) for one in rests)
            self.assertIs(enough_holds(ROOMS.trade, wants, 2, ("least", paper[1], told)), holds)
        for houses in (paper[1][::-1], paper[1][:1], paper[1] + paper[1][1:], paper[1] + ((1, 1, 1),), list(paper[1]), ()):
            self.assertIs(enough_holds(ROOMS.trade, wants, 2, ("least", houses, paper[2])), False)
        more = ("least", paper[1] + ((0, 0, 1),), paper[2])
        self.assertIs(enough_holds(ROOMS.trade, wants, 3, more), False)
        for value in ANY + [list(paper), paper[:2], paper + ((),), ("most",) + paper[1:]]:
            self.assertIs(enough_holds(ROOMS.trade, wants, 2, value), False)
            self.assertIs(enough_holds(ROOMS.trade, wants, 2, ("least", value, paper[2])), False)
            self.assertIs(enough_holds(ROOMS.trade, wants, 2, ("least", paper[1], value)), False)
        self.assertTrue(all(is_house(ROOMS.trade, house) for house, _ in paper[2]))
        fewer = tuple(rest for rest in paper[2] if len(rest[0]) < 2)
        self.assertIs(enough_holds(ROOMS.trade, wants, 1, ("least", (), fewer)), True)
        self.assertIs(enough_holds(ROOMS.trade, wants, 1, ("least", paper[1], fewer)), False)

    def test_a_house_that_takes_too_much_is_not_enough(self):
        spec = Spec(4, {"a": [1, 1, None, 2], "b": [0, 3, None, 2]}, {"0": [0, 1, 2, 0], "1": [2, 1, 0, 3]})
        wants = wants_told(tuple(tuple((letter, (room + 1) - 40 * (room == 39)) for letter in spec.letters
                                       if letter != "a" or room not in (0, 7, 14, 21, 28, 35)) for room in range(40)))
        house = (0, 1, 2)
        self.fails(TooGreat(20000), missed, spec.trade, wants, house)
        self.fails(TooGreat(20000), is_enough, spec.trade, wants, house)
        self.fails(TooGreat(20000), least_enough, spec.trade, wants, 3)
        self.fails(TooGreat(20000), enough_paper, spec.trade, wants, 3)
        rests = tuple((one, missed(spec.trade, wants, one)) for one in houses_upto(spec, 3) if one != house)
        self.assertTrue(all(row is not None for _, row in rests))
        self.assertIs(enough_holds(spec.trade, wants, 3, ("least", (house,), rests)), False)
        self.assertIs(enough_holds(spec.trade, wants, 2, ("least", (), tuple(one for one in rests if len(one[0]) < 3))), True)


if __name__ == "__main__":
    unittest.main()
