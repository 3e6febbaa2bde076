import itertools
import random
import unittest

from helpers import (ANY, CROSSED, NO_SEQUENCES, RING, ROOMS, SILENT, STILL, TIDE, Case, ending_spec, no_letters,
                     no_stands, specs)
from rueless.errors import BadTrade, NoLetter, NoStand
from rueless.trades import (Trade, all_parts, comer_ring, cut_kinds, cut_part, in_order, is_part, least_part,
                            most_comers, runs_out, side_by_side)


def rows_to(spec, stand, most):
    """All (row, stand behind) that lead one place anywhere, first rows first."""
    level = [("", stand)]
    for _ in range(most):
        level = [(row + letter, spec.ways[letter][at]) for row, at in level for letter in spec.letters
                 if spec.ways[letter][at] is not None]
        yield from level


def closed(spec, stands):
    return all(spec.ways[letter][stand] in set(stands) | {None} for letter in spec.letters for stand in stands)


class TradeTest(Case):
    def test_attributes_and_steps(self):
        trade = Trade(2, {"d": [1, None], "a": (0, 0)}, {"1": [1, 0], "0": (0, 0)})
        self.assertSame((trade.stands, trade.kinds, trade.beats, trade.letters), (2, "ad", "01", "ad01"))
        self.assertSame(self.agrees(trade.steps, letter="d"), (1, None))
        self.assertSame(self.agrees(trade.steps, letter="1"), (1, 0))
        self.assertSame(trade.step(stand=0, letter="d"), 1)
        self.assertIsNone(trade.step(1, "d"))
        self.assertSame((trade.takes(stand=0, kind="d"), trade.takes(1, "d")), (True, False))

    def test_without_kinds_and_beats(self):
        self.assertSame((STILL.trade.kinds, STILL.trade.beats, STILL.trade.letters), ("", "", ""))
        self.assertEqual(Trade(1, {}), Trade(1, {}, {}))
        self.assertEqual(Trade(stands=1, comers={}, beats=None), Trade(1, {}))

    def test_wrong_letters_and_stands(self):
        for value in no_letters("ab0"):
            self.fails(NoLetter(value), TIDE.trade.steps, value)
            self.fails(NoLetter(value), TIDE.trade.step, 0, value)
            self.fails(NoLetter(value), TIDE.trade.takes, 0, value)
        self.fails(NoLetter("0"), TIDE.trade.takes, 0, "0")
        for value in no_stands(TIDE):
            self.fails(NoStand(value), TIDE.trade.step, value, "x")
            self.fails(NoStand(value), TIDE.trade.takes, value, "x")

    def test_wrong_stands_of_a_trade(self):
        for value in ANY + [11]:
            if type(value) is not int or not 1 <= value <= 10:
                self.fails(BadTrade(0), Trade, value, None, None)
        self.assertEqual(Trade(10, {}).stands, 10)

    def test_wrong_comers_and_beats(self):
        let = [{}, {"a": [0, 1]}, {"b": (None, None)}]
        for comers in let:
            self.assertEqual(Trade(2, comers).kinds, "".join(comers))
        for value in ANY:
            self.fails(BadTrade(1), Trade, 2, value, 5)
            if value is not None:
                self.fails(BadTrade(2), Trade, 2, {}, value)
        wrong = [[0], [0, 1, 0], [0, 2], [-1, 0], [True, 0], ["0", 1], [[0], 1], "01", None, {0: 1}, 5]
        for steps in wrong:
            self.fails(BadTrade(1), Trade, 2, {"a": steps}, {"0": steps})
            self.fails(BadTrade(2), Trade, 2, {"a": [0, 1]}, {"0": steps})
        self.fails(BadTrade(2), Trade, 2, {}, {"0": [None, 1]})
        for letter in ["e", "", "ab", "A", "0", 0, None, True, (), ("a",)]:
            self.fails(BadTrade(1), Trade, 2, {letter: [0, 1]})
        for letter in ["2", "", "01", "a", 0, None, True]:
            self.fails(BadTrade(2), Trade, 2, {}, {letter: [0, 1]})

    def test_many_stands_must_run_out(self):
        for stands in (7, 8, 9, 10):
            on = [*range(1, stands), None]
            self.assertEqual(Trade(stands, {"a": on}, {"0": list(range(stands))}).stands, stands)
            self.fails(BadTrade(3), Trade, stands, {"a": [*range(1, stands), stands - 1]})
            self.fails(BadTrade(3), Trade, stands, {"a": on}, {"0": [0] * stands})
            self.fails(BadTrade(2), Trade, stands, {"a": [0] * stands}, {"0": [None] * stands})
        self.assertEqual(Trade(6, {"a": [0] * 6}).kinds, "a")

    def test_equality(self):
        made = Trade(2, {"a": [1, None]}, {"0": [1, 0]})
        self.assertEqual(made, Trade(2, {"a": (1, None)}, {"0": (1, 0)}))
        self.assertNotEqual(Trade(2, {}), Trade(3, {}))
        for other in (Trade(3, {"a": [1, None, 0]}, {"0": [1, 0, 0]}), Trade(2, {"b": [1, None]}, {"0": [1, 0]}),
                      Trade(2, {"a": [1, None]}, {"1": [1, 0]}), Trade(2, {"a": [1, 0]}, {"0": [1, 0]}),
                      Trade(2, {"a": [1, None]}), 2, None, "a", (2,), [made]):
            self.assertFalse(made == other)
            self.assertTrue(made != other)

    def test_nothing_changes_later(self):
        steps = [1, None]
        comers = {"a": steps}
        beats = {"0": [1, 0]}
        trade = Trade(2, comers, beats)
        steps[0] = 0
        beats["0"][0] = 0
        comers["b"] = [0, 0]
        beats.clear()
        self.assertSame((trade.letters, trade.steps("a"), trade.steps("0")), ("a0", (1, None), (1, 0)))
        self.assertEqual(steps, [0, None])

    def test_objects_are_no_collections(self):
        with self.assertRaises(TypeError):
            iter(TIDE.trade)
        with self.assertRaises(TypeError):
            len(TIDE.trade)


class PartsTest(Case):
    def test_least_part_is_part_all_parts(self):
        for spec in specs(1, 25, stands=(1, 2, 3, 4)) + [ending_spec(random.Random(2), 8, "ab", "0")]:
            every = [part for many in range(spec.stands + 1) for part in itertools.combinations(range(spec.stands), many)
                     if closed(spec, part)]
            self.assertSame(all_parts(trade=spec.trade), tuple(every))
            for many in range(spec.stands + 1):
                for stands in itertools.combinations(range(spec.stands), many):
                    self.assertIs(is_part(trade=spec.trade, value=stands), stands in every)
                    least = [part for part in every if set(stands) <= set(part)][0]
                    self.assertSame(self.agrees(least_part, trade=spec.trade, stands=list(stands)[::-1] * 2), least)

    def test_wrong_stands(self):
        for value in NO_SEQUENCES:
            self.fails(NoStand(value), least_part, TIDE.trade, value)
        for value in no_stands(TIDE):
            self.fails(NoStand(value), least_part, TIDE.trade, [0, value, "y"])
        self.assertSame(least_part(TIDE.trade, []), ())

    def test_what_is_no_part(self):
        still = Trade(3, {})
        for value in ANY + [(0, 0), (2, 1), (0, 3), [0, 1], (0, True), (0, None)]:
            is_tuple = isinstance(value, tuple) and all(type(one) is int and 0 <= one < 3 for one in value)
            is_ascending = is_tuple and list(value) == sorted(set(value))
            self.assertIs(is_part(still, value), is_ascending)
        self.assertIs(is_part(CROSSED.trade, (0, 1)), False)
        self.assertIs(is_part(CROSSED.trade, (0, 2)), True)


class CutTest(Case):
    def test_cut_part(self):
        for spec in specs(3, 20):
            for part in all_parts(spec.trade)[1:]:
                cut = cut_part(trade=spec.trade, part=part)
                self.assertSame((cut.stands, cut.letters), (len(part), spec.letters))
                for letter in spec.letters:
                    told = [None if stand is None else part[stand] for stand in cut.steps(letter)]
                    self.assertEqual(told, [spec.ways[letter][stand] for stand in part])
        for value in ANY + [(0,), (1, 0), [2]]:
            if not is_part(CROSSED.trade, value) or value == ():
                self.fails(BadTrade(0), cut_part, CROSSED.trade, value)
        self.fails(BadTrade(0), cut_part, CROSSED.trade, [0, 1, 2])

    def test_cut_kinds(self):
        trade = Trade(2, {"a": [0, 1], "b": [1, None], "d": [None, 0]}, {"1": [1, 0]})
        only = Trade(2, {"a": [0, 1], "d": [None, 0]}, {"1": [1, 0]})
        for kinds in ("da", "addad", ["d", "a"], ("a", "d", "a")):
            self.assertEqual(cut_kinds(trade=trade, kinds=kinds), only)
        for kinds in ("", [], ()):
            self.assertEqual(cut_kinds(trade, kinds), Trade(2, {}, {"1": [1, 0]}))
        self.assertEqual(cut_kinds(trade, "abd"), trade)
        for value in (None, True, 0, 5, trade):
            self.fails(NoLetter(value), cut_kinds, trade, value)
        for value in no_letters("abd"):
            self.fails(NoLetter(value), cut_kinds, trade, ["a", value, 0])
        self.fails(NoLetter("c"), cut_kinds, trade, "acx")
        self.fails(NoLetter("1"), cut_kinds, trade, "1")
        self.fails(NoLetter(""), cut_kinds, trade, [""])

    def test_in_order(self):
        for spec in specs(4, 10):
            for order in itertools.permutations(range(spec.stands)):
                turned = self.agrees_trade(in_order, spec.trade, list(order))
                for letter in spec.letters:
                    told = [None if stand is None else order[stand] for stand in turned.steps(letter)]
                    self.assertEqual(told, [spec.ways[letter][stand] for stand in order])
        for value in ANY + [(0, 1), (0, 1, 1), (0, 1, 2, 2), (2, True, 0), [0, 1, 3], "012"]:
            self.fails(BadTrade(0), in_order, TIDE.trade, value)

    def agrees_trade(self, call, trade, order):
        self.assertEqual(call(trade, order), call(trade=trade, order=tuple(order)))
        return call(trade, order)

    def test_side_by_side(self):
        both = side_by_side(one=ROOMS.trade, other=ROOMS.trade)
        self.assertEqual(both, Trade(6, {"a": [2, 2, None, 5, 5, None], "b": [None, 2, None, None, 5, None]}))
        beaten = side_by_side(Trade(1, {}, {"0": [0]}), Trade(2, {}, {"0": [1, 0]}))
        self.assertEqual(beaten, Trade(3, {}, {"0": [0, 2, 1]}))
        self.fails(BadTrade(1), side_by_side, ROOMS.trade, Trade(1, {"a": [0]}, {"0": [0]}))
        self.fails(BadTrade(2), side_by_side, TIDE.trade, ROOMS.trade)
        many = Trade(6, {"a": [1, 2, 3, 4, 5, None]})
        self.fails(BadTrade(0), side_by_side, many, many)
        self.fails(BadTrade(3), side_by_side, many, Trade(1, {"a": [0]}))
        self.assertEqual(side_by_side(many, Trade(4, {"a": [None] * 4})).stands, 10)


class RunsOutTest(Case):
    def test_rings_and_comers(self):
        dice = random.Random(5)
        every = specs(6, 60, stands=(1, 2, 3), empty=0.6) + [ending_spec(dice, 3, "ab", "01") for _ in range(10)]
        for spec in every + [TIDE, ROOMS, RING, SILENT, STILL]:
            rings = []
            for stand in range(spec.stands):
                rows = [row for row, behind in rows_to(spec, stand, 2 * spec.stands)
                        if behind == stand and any(sign in spec.kinds for sign in row)]
                if rows:
                    rings.append((stand, rows[0]))
            self.assertSame(comer_ring(trade=spec.trade), rings[0] if rings else None)
            self.assertIs(runs_out(trade=spec.trade), not rings)
            endless = {stand for stand, _ in rings}
            for stand in range(spec.stands):
                told = [(row, behind) for row, behind in rows_to(spec, stand, 2 * spec.stands)] + [("", stand)]
                if any(behind in endless for _, behind in told):
                    self.assertIsNone(most_comers(spec.trade, stand))
                else:
                    most = max(sum(sign in spec.kinds for sign in row) for row, _ in told)
                    self.assertSame(most_comers(trade=spec.trade, stand=stand), most)

    def test_rows_of_a_ring_go_in_the_order_of_letters(self):
        self.assertSame(comer_ring(Trade(2, {"a": [1, None], "b": [1, None]}, {"0": [0, 0], "1": [0, 0]})), (0, "a0"))
        self.assertSame(comer_ring(Trade(3, {"a": [None, 2, None]}, {"0": [1, 1, 1]})), (1, "a0"))
        self.assertIsNone(comer_ring(Trade(3, {}, {"0": [1, 2, 0]})))

    def test_many_stands(self):
        trade = Trade(10, {"a": [*range(1, 10), None]}, {"0": list(range(10))})
        self.assertSame([most_comers(trade, stand) for stand in range(10)], list(range(9, -1, -1)))
        self.assertIs(runs_out(trade), True)
        for value in no_stands(TIDE):
            self.fails(NoStand(value), most_comers, TIDE.trade, value)


if __name__ == "__main__":
    unittest.main()
