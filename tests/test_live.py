import random
import unittest

from helpers import (ANY, CROSSED, NO_SEQUENCES, RING, ROOMS, SILENT, STILL, TIDE, Case, Spec, no_letters, no_stands, specs,
                     without)
from rueless.errors import BadHouse, BadTrade, CannotTake, NoLetter, NoStand, Refused, TooGreat
from rueless.live import Yard, joined_yards
from rueless.stewards import Steward
from rueless.trades import cut_kinds
from rueless.twos import Table
from rueless.verdict import is_rueless, sure_choices

TOLD = [CROSSED, RING, ROOMS, SILENT, STILL, TIDE]
# Rueful, and in houses of 0, 1 and 2 the kind c has a sure choice that is not the least stand.
SURE = Spec(4, {"a": [3, None, None, None], "b": [None, 3, None, None], "c": [3, 3, 2, None]})
NAMES = ("whole", "shut_kinds", "trade", "house", "row", "whole_front")


def state(yard):
    return {name: getattr(yard, name) for name in NAMES}


class Model:
    """A yard by the words alone."""

    def __init__(self, spec, house, shut):
        self.spec = spec
        self.shut = shut
        self.house = tuple(sorted(house))
        self.begin()

    def begin(self):
        self.row = ""
        self.front = (self.house,)

    def trade(self):
        return cut_kinds(self.spec.trade, [kind for kind in self.spec.kinds if kind not in self.shut])

    def choice(self, kind):
        trade = self.trade()
        table = Table(trade)
        takers = [stand for stand, _ in self.spec.choices(self.house, kind)]
        if is_rueless(table):
            return Steward(table).choice(self.house, kind)
        if not takers:
            return None
        return (sure_choices(table, self.house, kind) or takers)[0]

    def lead(self, letter, stand=None):
        self.house = dict(self.spec.choices(self.house, letter))[stand]
        self.row += letter
        self.front = tuple(sorted({behind for house in self.front for behind in self.spec.moves(house, letter)}))

    def put(self, stand):
        self.house = tuple(sorted(self.house + (stand,)))
        self.front = tuple(sorted(tuple(sorted(house + (stand,))) for house in self.front))

    def take_away(self, stand):
        at = self.house.index(stand)
        self.house = self.house[:at] + self.house[at + 1:]
        self.begin()

    def copy(self):
        made = Model(self.spec, self.house, self.shut)
        made.row, made.front = self.row, self.front
        return made

    def state(self):
        return {"whole": self.spec.trade, "shut_kinds": self.shut, "trade": self.trade(), "house": self.house,
                "row": self.row, "whole_front": self.front}


class YardTest(Case):
    def assertIs_like(self, yard, model):
        told, wanted = state(yard), model.state()
        for name in NAMES:
            if name in ("whole", "trade"):
                self.assertEqual(told[name], wanted[name])
            else:
                self.assertSame(told[name], wanted[name], name)
        self.assertEqual(yard.table.trade, wanted["trade"])
        self.assertIs(yard.is_safe(), is_rueless(Table(wanted["trade"])))

    def deed(self, dice, yard, model):
        """Does a random deed to both, or one that raises an error and changes nothing; returns whether it was done."""
        spec = model.spec
        let = [kind for kind in spec.kinds if kind not in model.shut]
        word = dice.choice(["come", "come", "come", "give", "beat", "put", "take_away", "shut", "let"])
        stand = dice.randrange(spec.stands)
        if word in ("come", "give"):
            kind = dice.choice(spec.kinds or "a")
            if kind not in let:
                self.fails(NoLetter(kind), getattr(yard, word), *((kind,) if word == "come" else (kind, None)))
                return False
            ways = dict(spec.choices(model.house, kind))
            if word == "come":
                stand = model.choice(kind)
                self.assertSame(yard.choice(kind=kind), stand)
                if stand is None:
                    self.fails(Refused(0), yard.come, kind)
                    return False
                self.assertSame(yard.come(kind=kind), stand)
            elif stand not in ways:
                self.fails(CannotTake(kind), yard.give, kind, stand)
                return False
            else:
                self.assertIsNone(yard.give(kind=kind, stand=stand))
            model.lead(kind, stand)
        elif word == "beat":
            if not spec.beats:
                self.fails(NoLetter("0"), yard.beat, "0")
                return False
            sign = dice.choice(spec.beats)
            self.assertIsNone(yard.beat(sign=sign))
            model.lead(sign)
        elif word == "put":
            if len(model.house) == 4:
                return False
            self.assertIsNone(yard.put(stand=stand))
            model.put(stand)
        elif word == "take_away":
            if stand not in model.house:
                self.fails(NoStand(stand), yard.take_away, stand)
                return False
            self.assertIsNone(yard.take_away(stand=stand))
            model.take_away(stand)
        else:
            return self.shut_or_let(dice, yard, model, word, let)
        return True

    def shut_or_let(self, dice, yard, model, word, let):
        kind = dice.choice("abcd")
        if kind not in (let if word == "shut" else model.shut):
            self.fails(NoLetter(kind), getattr(yard, word), kind)
            return False
        self.assertIsNone(getattr(yard, word)(kind=kind))
        model.shut = "".join(one for one in "abcd" if (one in model.shut) != (one == kind))
        model.begin()
        return True

    def test_deeds(self):
        dice = random.Random(1080)
        done = 0
        for spec in specs(1081, 30, stands=(2, 3), kinds=("a", "ab", "abc"), beats=("", "0"), empty=0.3) + TOLD + [SURE]:
            house = [dice.randrange(spec.stands) for _ in range(dice.randrange(4))]
            shut = "".join(kind for kind in spec.kinds if dice.random() < 0.2)
            yard = Yard(spec.trade, house, shut_kinds=shut)
            other = Yard(trade=spec.trade, house=house, shut_kinds=list(shut[::-1]) + list(shut))
            model = Model(spec, house, shut)
            past, undone = [], []
            first = state(other)
            for _ in range(30):
                self.assertIs_like(yard, model)
                turn = dice.random()
                if turn < 0.25:
                    self.assertIs(yard.undo(), bool(past))
                    if past:
                        undone.append(model)
                        model = past.pop()
                elif turn < 0.45:
                    self.assertIs(yard.redo(), bool(undone))
                    if undone:
                        past.append(model)
                        model = undone.pop()
                else:
                    before = model.copy()
                    if self.deed(dice, yard, model):
                        past.append(before)
                        undone = []
                        done += 1
            self.assertIs_like(yard, model)
            self.assertEqual(state(other), first)
        self.assertGreater(done, 250)

    def test_choices(self):
        yard = Yard(SURE.trade, (0, 1, 2))
        self.assertIs(yard.is_safe(), False)
        self.assertSame((yard.choice("c"), yard.come("c"), yard.house), (2, 2, (0, 1, 2)))
        # No choice is sure, so the least taker is.
        yard = Yard(CROSSED.trade, [1, 0])
        self.assertSame((yard.choice("c"), yard.come("c"), yard.house, yard.row), (0, 0, (1, 2), "c"))
        self.assertSame((yard.whole_front, yard.choice("a")), (((0, 2), (1, 2)), None))
        self.fails(Refused(0), yard.come, "a")
        yard = Yard(RING.trade, (0, 1), shut_kinds=())
        self.assertSame((yard.shut_kinds, yard.is_safe(), yard.choice("a")), ("", True, 1))
        # In a ring of stands all are sure, and the steward takes the last that he comes to.
        yard = Yard(RING.trade, (0, 1, 2))
        self.assertSame((sure_choices(yard.table, yard.house, "a"), yard.choice("a")), ((0, 1, 2), 2))
        more = Spec(5, {"a": [3, None, None, None, None], "b": [None, 3, None, None, None], "c": [3, 3, 2, None, 4]})
        yard = Yard(more.trade, (0, 1, 2, 4))
        self.assertSame((sure_choices(yard.table, yard.house, "c"), yard.choice("c"), yard.is_safe()), ((2, 4), 2, False))
        self.assertSame(Yard(STILL.trade).house, ())
        with self.assertRaises(TypeError):
            list(yard)

    def test_all_kinds_shut(self):
        yard = Yard(TIDE.trade, (0, 2), shut_kinds="ba")
        self.assertSame((yard.shut_kinds, yard.trade.letters, yard.is_safe()), ("ab", "0", True))
        self.assertIsNone(yard.beat("0"))
        self.assertSame((yard.house, yard.row, yard.whole_front), ((0, 1), "0", ((0, 1),)))
        for value in no_letters(""):
            self.fails(NoLetter(value), yard.come, value)
        self.assertIsNone(yard.let("b"))
        self.assertSame((yard.trade.kinds, yard.row, yard.whole_front, yard.house), ("b", "", ((0, 1),), (0, 1)))
        self.assertSame((yard.undo(), yard.row, yard.trade.kinds, yard.undo(), yard.undo(), yard.house),
                        (True, "0", "", True, False, (0, 2)))

    def test_redo_is_forgotten_by_deeds_that_are_done(self):
        yard = Yard(TIDE.trade, (0, 1))
        yard.beat("0")
        yard.put(2)
        self.assertIs(yard.undo(), True)
        self.fails(NoStand(7), yard.put, 7)
        self.assertIs(yard.redo(), True)
        self.assertSame((yard.house, yard.whole_front), ((1, 2, 2), ((1, 2, 2),)))
        yard.undo()
        yard.beat("0")
        self.assertIs(yard.redo(), False)

    def test_wrong_yards(self):
        for value in NO_SEQUENCES:
            self.fails(BadHouse(-1), Yard, TIDE.trade, value, shut_kinds=None)
        self.fails(BadHouse(1), Yard, TIDE.trade, (0, 3), shut_kinds=None)
        for value in without(ANY, lambda one: isinstance(one, (str, list, tuple))):
            self.fails(NoLetter(value), Yard, TIDE.trade, (0,), shut_kinds=value)
        for value in no_letters("ab"):
            self.fails(NoLetter(value), Yard, TIDE.trade, (0,), shut_kinds=["a", value])
        self.fails(NoLetter("0"), Yard, TIDE.trade, (0,), shut_kinds="a0")

    def test_wrong_deeds_change_nothing(self):
        yard = Yard(TIDE.trade, (0, 1), shut_kinds="a")
        yard.beat("0")
        yard.undo()
        before = state(yard)
        for value in no_letters("b"):
            for deed in (yard.choice, yard.come, yard.shut):
                self.fails(NoLetter(value), deed, value)
            self.fails(NoLetter(value), yard.give, value, None)
        for value in no_letters("a"):
            self.fails(NoLetter(value), yard.let, value)
        for value in no_letters("0"):
            self.fails(NoLetter(value), yard.beat, value)
        for value in no_stands(TIDE):
            self.fails(NoStand(value), yard.put, value)
            self.fails(NoStand(value), yard.take_away, value)
            self.fails(CannotTake("b"), yard.give, "b", value)
        self.fails(NoStand(2), yard.take_away, 2)
        self.assertEqual(state(yard), before)
        self.assertIs(yard.redo(), True)
        full = Yard(TIDE.trade, (0,) * 6)
        self.fails(BadHouse(6), full.put, 1)
        self.assertIs(full.undo(), False)


class LostTest(Case):
    def slow(self, spec, yard, letters):
        for row in spec.rows(letters):
            if any(spec.serves(house, row) for house in yard.whole_front) and not spec.serves(yard.house, row):
                return row
        return None

    def test_lost(self):
        dice = random.Random(1082)
        found = set()
        for spec in specs(1083, 40, stands=(2, 3), kinds=("ab", "abc"), beats=("", "0")) + [CROSSED, TIDE, SURE]:
            yard = Yard(spec.trade, [dice.randrange(spec.stands) for _ in range(dice.randrange(1, 4))])
            for _ in range(3):
                kind = dice.choice(spec.kinds)
                ways = [stand for stand, _ in spec.choices(yard.house, kind)]
                if ways:
                    yard.give(kind, dice.choice(ways))
            if dice.random() < 0.4:
                yard.put(dice.randrange(spec.stands))
            row = self.slow(spec, yard, 4)
            for letters in range(5):
                told = row if row is not None and len(row) <= letters else None
                self.assertSame(self.agrees(yard.lost, letters=letters), told)
                for most in (1, 2, 5):
                    try:
                        self.assertSame(yard.lost(letters, most=most), told)
                    except TooGreat as error:
                        self.assertEqual(error.most, most)
                        self.assertGreater(pairs_of(spec, yard, letters), most)
            found.add(None if row is None else len(row))
        self.assertTrue({None, 1, 2} <= found, found)

    def test_nothing_is_lost_where_comers_come_in_rueless_trades(self):
        dice = random.Random(1084)
        many = 0
        for spec in specs(1085, 60, stands=(2, 3), kinds=("a", "ab"), beats=("", "0")):
            yard = Yard(spec.trade, [dice.randrange(spec.stands) for _ in range(3)])
            if yard.is_safe():
                for _ in range(4):
                    kind = dice.choice(spec.kinds)
                    if yard.choice(kind) is not None:
                        yard.come(kind)
                        many += len(yard.whole_front) > 1
                self.assertIsNone(yard.lost(4))
        self.assertGreater(many, 20)

    def test_wrong_numbers(self):
        yard = Yard(CROSSED.trade, (0, 1))
        for value in without(ANY, lambda one: type(one) is int and 0 <= one <= 200) + [201]:
            self.fails(Refused(value), yard.lost, value)
        self.assertSame((yard.lost(200), yard.give("c", 1), yard.lost(200), yard.lost(1), yard.lost(0)),
                        (None, None, "b", "b", None))
        # Rows that are longer than is asked for are not looked at.
        spec = Spec(4, {"a": [1, 2, 0, 3], "b": [3, None, 1, 0]}, {"0": [1, 2, 3, 0]})
        yard = Yard(spec.trade, (0, 1, 2, 3))
        yard.give("a", 3)
        self.assertSame(yard.lost(1, most=4), self.slow(spec, yard, 1))


def pairs_of(spec, yard, letters):
    found = set()
    for row in spec.rows(letters):
        whole = {one for house in yard.whole_front for one in spec.front(house, row)}
        if whole:
            found.add((tuple(sorted(whole)), spec.front(yard.house, row)))
    return len(found)


class JoinedTest(Case):
    def test_joined(self):
        one, two = Yard(TIDE.trade, (0, 1), shut_kinds="a"), Yard(TIDE.trade, [2, 0], shut_kinds=["a"])
        one.beat("0")
        made = joined_yards(one=one, other=two)
        self.assertSame((made.house, made.shut_kinds, made.row, made.whole_front), ((0, 1, 2, 2), "a", "", ((0, 1, 2, 2),)))
        self.assertEqual((made.whole, made.trade), (TIDE.trade, cut_kinds(TIDE.trade, "b")))
        made.beat("0")
        self.assertSame((one.house, two.house, made.undo(), made.undo()), ((1, 2), (0, 2), True, False))

    def test_wrong_yards(self):
        one = Yard(TIDE.trade, (0,) * 4)
        self.fails(BadTrade(0), joined_yards, one, Yard(RING.trade, ()))
        self.fails(BadTrade(0), joined_yards, one, Yard(TIDE.trade, (0,) * 4, shut_kinds="a"))
        self.fails(BadTrade(0), joined_yards, Yard(CROSSED.trade, shut_kinds="c"),
                   Yard(cut_kinds(CROSSED.trade, "ab"), ()))
        self.fails(BadHouse(6), joined_yards, one, Yard(TIDE.trade, (0,) * 3))
        self.assertSame(joined_yards(one, Yard(TIDE.trade, (2, 1))).house, (0, 0, 0, 0, 1, 2))


if __name__ == "__main__":
    unittest.main()
