import random
import unittest

from helpers import (ANY, NO_STRINGS, RING, ROOMS, SILENT, STILL, TIDE, Case, Spec, bends, choices, is_shown_by,
                     no_letters, no_stands, random_row, rueless_specs, same, specs)
from rueless.errors import BadRow, CannotTake, NoLetter, NoStand, Refused, TooGreat
from rueless.opening import Growing, fewest_places, late_fault, late_holds, late_pairs
from rueless.stewards import Steward
from rueless.twos import Table
from rueless.verdict import is_rueless

# In the first trade an open place keeps what only a new one would keep twice; in the second one it does not.
LATE = Spec(3, {"a": [1, 1, None], "b": [None, 2, None]}, {"0": [0, 1, 2]})
DEAR = Spec(3, {"a": [1, 2, None], "b": [2, None, None]})
TOLD = [RING, ROOMS, SILENT, STILL, TIDE, LATE, DEAR]


def is_store(spec, stand):
    return all(spec.ways[beat][stand] == stand for beat in spec.beats)


def cases(seed, many):
    """Rueless trades with a store."""
    dice = random.Random(seed)
    found = [spec for spec in TOLD if is_rueless(Table(spec.trade))]
    for spec in rueless_specs(seed, many):
        kept = dice.randrange(spec.stands)
        beats = {beat: [kept if stand == kept else way for stand, way in enumerate(spec.ways[beat])] for beat in spec.beats}
        found.append(Spec(spec.stands, {kind: spec.ways[kind] for kind in spec.kinds}, beats))
    for spec in specs(seed + 1, 3 * many, stands=(2, 3, 4), beats=("",), empty=0.5):
        found.append(spec)
    for spec in found:
        if is_rueless(Table(spec.trade)):
            for stand in range(spec.stands):
                if is_store(spec, stand):
                    yield spec, Steward(Table(spec.trade)), stand


def slow_fewest(spec, store, row):
    """The least number of places that serve a row, None if eight don't: rows are shorter than that."""
    for places in range(9):
        if spec.serves((store,) * places, row):
            return places
    return None


class GrowingTest(Case):
    def test_what_comes_by_the_words(self):
        dice = random.Random(450)
        opened = set()
        for spec, steward, store in cases(451, 20):
            growing = Growing(steward=steward, store=store)
            self.assertSame((growing.open_stands, growing.opened), ((), 0))
            now = []
            for letter in random_row(dice, spec, 12):
                before = (growing.open_stands, growing.opened)
                stand = None
                if letter in spec.beats:
                    now = [spec.ways[letter][one] for one in now]
                else:
                    stand = steward.set_choice(now, letter)
                    if stand is None and spec.ways[letter][store] is None:
                        self.fails(CannotTake(letter), growing.come, letter)
                        self.assertSame((growing.open_stands, growing.opened), before)
                        continue
                    if stand is None:
                        stand = store
                    else:
                        now.remove(stand)
                    now.append(spec.ways[letter][stand])
                self.assertSame(growing.come(letter), stand)
                self.assertSame((growing.open_stands, growing.opened), (tuple(sorted(now)), len(now)))
                opened.add(growing.opened)
        self.assertGreater(max(opened), 6)

    def test_two_hundred_places(self):
        spec = Spec(3, {"a": [1, None, None], "b": [None, 2, None], "c": [None, None, None]}, {"0": [0, 1, 2]})
        growing = Growing(Steward(Table(spec.trade)), 0)
        for many in range(200):
            self.assertSame((growing.opened, growing.come("a")), (many, 0))
        for _ in range(2):
            self.fails(TooGreat(200), growing.come, "a")
            self.fails(CannotTake("c"), growing.come, "c")
            self.assertSame((growing.open_stands, growing.opened), ((1,) * 200, 200))
        self.assertSame((growing.come("0"), growing.come("b"), growing.open_stands), (None, 1, (1,) * 199 + (2,)))
        self.assertSame(growing.come(letter="b"), 1)

    def test_wrong_values_in_order(self):
        steward = Steward(Table(TIDE.trade))
        for value in no_stands(TIDE):
            for call in (Growing, late_pairs, late_fault):
                self.fails(NoStand(value), call, steward, value)
            self.fails(NoStand(value), fewest_places, steward, value, None)
            self.fails(NoStand(value), late_holds, TIDE.trade, value, None)
        for stand in range(3):
            for call in (Growing, late_pairs, late_fault):
                self.fails(Refused(stand), call, steward, stand)
            self.fails(Refused(stand), fewest_places, steward, stand, None)
            self.fails(Refused(stand), late_holds, TIDE.trade, stand, None)
        for value in no_stands(ROOMS):
            for call in (Growing, late_pairs, late_fault):
                self.fails(NoStand(value), call, Steward(Table(ROOMS.trade)), value)
            self.fails(NoStand(value), late_holds, ROOMS.trade, value, None)
        two = Spec(2, {"a": [1, 0]}, {"0": [0, 1], "1": [0, 0]})
        self.assertSame(Growing(Steward(Table(two.trade)), 0).opened, 0)
        self.fails(Refused(1), Growing, Steward(Table(two.trade)), 1)
        growing = Growing(Steward(Table(ROOMS.trade)), 1)
        growing.come("a")
        for value in no_letters("ab"):
            self.fails(NoLetter(value), growing.come, value)
            self.assertSame((growing.open_stands, growing.opened), ((2,), 1))
        for value in NO_STRINGS:
            self.fails(BadRow(-1), fewest_places, Steward(Table(ROOMS.trade)), 1, value)
        self.fails(BadRow(1), fewest_places, Steward(Table(ROOMS.trade)), 1, "a0" + "a" * 300)
        self.fails(BadRow(200), fewest_places, Steward(Table(ROOMS.trade)), 1, "a" * 201)
        self.assertRaises(TypeError, iter, growing)
        self.assertRaises(TypeError, len, growing)


class FewestPlacesTest(Case):
    def test_fewest_places(self):
        dice = random.Random(452)
        found = set()
        for spec, steward, store in cases(453, 20):
            for _ in range(8):
                row = random_row(dice, spec, 7)
                told = slow_fewest(spec, store, row)
                found.add(told)
                self.assertSame(self.agrees(fewest_places, steward=steward, store=store, row=row), told)
        self.assertTrue({None, 0, 1, 2, 3, 4, 5} <= found)

    def test_more_than_six_places(self):
        steward = Steward(Table(ROOMS.trade))
        for many in (7, 8, 100, 200):
            self.assertSame(fewest_places(steward, 1, "ab" * (many // 2) + "a" * (many % 2)), many)
        self.assertSame((fewest_places(steward, 0, "a" * 199), fewest_places(steward, 0, "a" * 199 + "b")), (199, None))
        turn = Spec(2, {"a": [1, None], "b": [None, 0]}, {"0": [0, 1]})
        self.assertSame(fewest_places(Steward(Table(turn.trade)), 0, "aaab0b" * 33), 35)


class LateTest(Case):
    def test_pairs_and_faults(self):
        found = set()
        for spec, steward, store in cases(454, 30):
            rows = {store: ""}
            for stand in rows_reached(spec, rows):
                for letter in spec.letters:
                    behind = spec.ways[letter][stand]
                    if behind is not None and behind not in rows:
                        rows[behind] = rows[stand] + letter
            told = []
            for stand in sorted(rows):
                for kind in spec.kinds:
                    if stand != store and None not in (spec.ways[kind][stand], spec.ways[kind][store]):
                        first, second = choices(spec, kind, store, stand)
                        row = spec.parting(first, second)
                        if row is not None and spec.parting(second, first) is None:
                            told.append((stand, kind, row))
            pairs = tuple(one[:2] for one in told)
            self.assertSame(self.agrees(late_pairs, steward=steward, store=store), pairs)
            fault = ("late", rows[told[0][0]]) + told[0] if told else None
            found.add(len(told))
            self.assertSame(self.agrees(late_fault, steward=steward, store=store), fault)
            if fault is not None:
                self.assertIs(self.agrees(late_holds, trade=spec.trade, store=store, value=fault), True)
                self.assertTrue(is_shown_by(slow_late, spec, store, fault))
                row = fault[1] + fault[3] + fault[4]
                self.assertTrue(fewest_places(steward, store, row) <= 2)
                growing = Growing(steward, store)
                try:
                    for letter in row:
                        growing.come(letter)
                except CannotTake:
                    continue
                self.assertGreater(growing.opened, 2)
        self.assertTrue({0, 1, 2} <= found)

    def test_what_holds_where_there_is_no_pair(self):
        dice = random.Random(455)
        many = 0
        for spec, steward, store in cases(456, 20):
            if late_pairs(steward, store):
                continue
            for _ in range(4):
                growing, so_far = Growing(steward, store), ""
                for letter in random_row(dice, spec, 7):
                    if slow_fewest(spec, store, so_far + letter) is None:
                        self.fails(CannotTake(letter), growing.come, letter)
                        continue
                    growing.come(letter)
                    so_far += letter
                    self.assertEqual(growing.opened, slow_fewest(spec, store, so_far))
                    many += 1
        self.assertGreater(many, 200)

    def test_told_faults(self):
        steward = Steward(Table(DEAR.trade))
        self.assertSame((late_pairs(steward, 0), late_fault(steward, 0)), ((), None))
        steward = Steward(Table(LATE.trade))
        self.assertSame(late_pairs(steward, 0), ((1, "a"),))
        self.assertSame(late_fault(steward, 0), ("late", "a", 1, "a", "bb"))
        self.assertSame((late_pairs(steward, 1), late_pairs(steward, 2)), ((), ()))

    def test_bent_faults(self):
        dice = random.Random(457)
        held = []
        for spec, steward, store in cases(458, 30):
            fault = late_fault(steward, store)
            if fault is not None:
                for bent in bends(dice, fault, 40):
                    held.append(is_shown_by(slow_late, spec, store, bent))
                    self.assertIs(late_holds(spec.trade, store, bent), held[-1], bent)
        self.assertGreater(held.count(True), 50)
        self.assertGreater(held.count(False), 500)

    def test_any_trade_and_any_rows(self):
        held = []
        for spec in specs(459, 60, stands=(3, 4), beats=("", "0"), empty=0.5):
            for store in range(spec.stands):
                if not is_store(spec, store):
                    continue
                for row in spec.rows(1):
                    for stand in range(spec.stands):
                        for kind in spec.kinds:
                            for rest in list(spec.rows(2))[:12] + [None]:
                                value = ("late", row, stand, kind, rest)
                                held.append(is_shown_by(slow_late, spec, store, value))
                                self.assertIs(late_holds(spec.trade, store, value), held[-1])
        self.assertGreater(held.count(True), 20)
        # Rows that a beat makes longer.
        self.assertIs(late_holds(LATE.trade, 0, ("late", "a", 1, "a", "bb")), True)
        for more, told in ((199, True), (200, False)):
            self.assertIs(late_holds(LATE.trade, 0, ("late", "0" * more + "a", 1, "a", "bb")), told)
            self.assertIs(late_holds(LATE.trade, 0, ("late", "a", 1, "a", "0" * (more - 1) + "bb")), told)

    def test_any_values(self):
        fault = ("late", "a", 1, "a", "bb")
        for value in ANY + [list(fault), fault[:4], fault + ("",), ("late", "a", True, "a", "bb")]:
            self.assertIs(late_holds(LATE.trade, 0, value), False)
            for at in range(5):
                bent = fault[:at] + (value,) + fault[at + 1:]
                self.assertIs(late_holds(LATE.trade, 0, bent), same(bent, fault) or is_shown_by(slow_late, LATE, 0, bent))


def rows_reached(spec, rows):
    """The stands of rows, also those that are added while one goes through them."""
    done = []
    while len(done) < len(rows):
        done.append([stand for stand in rows if stand not in done][0])
        yield done[-1]


def slow_late(spec, store, value):
    word, row, stand, kind, rest = value
    if word != "late" or kind not in list(spec.kinds) or not 0 <= stand < spec.stands or type(value) is not tuple:
        return False
    if not all(type(one) is str and len(one) <= 200 and all(sign in spec.letters for sign in one) for one in (row, rest)):
        return False
    now = store
    for letter in row:
        now = None if now is None else spec.ways[letter][now]
    if now != stand:
        return False
    first, second = choices(spec, kind, store, stand)
    return spec.serves(first, rest) and not spec.serves(second, rest)


if __name__ == "__main__":
    unittest.main()
