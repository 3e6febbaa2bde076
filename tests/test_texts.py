import random
import unittest

from helpers import (NO_SEQUENCES, NO_STRINGS, RING, ROOMS, SILENT, STILL, TIDE, Case, ending_spec, no_stands,
                     random_house, specs)
from rueless.errors import BadHouse, BadText, BadTrade
from rueless.texts import house_text, read_house, read_trade, trade_text
from rueless.trades import Trade

LONG = ending_spec(random.Random(7), 10, "abcd", "01")


class TradeTextTest(Case):
    def test_there_and_back(self):
        for spec in specs(35, 40) + [TIDE, ROOMS, RING, SILENT, STILL, LONG]:
            lines = [f"stands {spec.stands}"]
            for letter in spec.letters:
                lines.append(letter + "".join(" -" if one is None else f" {one}" for one in spec.ways[letter]))
            text = self.agrees(trade_text, trade=spec.trade)
            self.assertEqual(text, "\n".join(lines))
            self.assertEqual(read_trade(text=text), spec.trade)

    def test_told_texts(self):
        self.assertEqual(trade_text(TIDE.trade), "stands 3\na 0 - 2\nb 1 2 0\n0 1 2 0")
        self.assertEqual(read_trade("stands 1"), Trade(1, {}))
        self.assertEqual(read_trade("stands 10").stands, 10)
        self.assertEqual(read_trade("stands 2\nd - -\n1 0 0"), Trade(2, {"d": [None, None]}, {"1": [0, 0]}))

    def test_spoilt_lines(self):
        for value in NO_STRINGS:
            self.fails(BadText(0), read_trade, value)
        for line in ("", "stands", "stands ", "stands 0", "stands 11", "stands 03", "stands 3 ", " stands 3", "Stands 3",
                     "stands  3", "stands -1", "stands 3 4", "stands x", "stand 3", "stands 3\r", "stands\t3", "3",
                     "stands \u0663"):
            self.fails(BadText(1), read_trade, line)
            self.fails(BadText(1), read_trade, line + "\nx")
        for line in ("", "a", "a ", "a 0 1", "a 0 1 2 0", "a 0 1 3", "a 0 1 -1", "a 0  1 2", "a 0 1 2 ", " a 0 1 2",
                     "e 0 1 2", "ab 0 1 2", "A 0 1 2", "2 0 1 2", "0 0 - 1", "1 - - -", "a 0 01 2", "a 3 1 2", "a x 1 2", "a  0 1", "a - x -", "0 3 0 0", "a 0 1 --", "a 0 1 x",
                     "a\t0 1 2", "a 0 1 2\r", "0 1 2", "a 0 1 None", "a 0 1 \u0662", "a 0 1 1.0"):
            self.fails(BadText(2), read_trade, "stands 3\n" + line)
            self.fails(BadText(2), read_trade, "stands 3\n" + line + "\nx")
            self.fails(BadText(3), read_trade, "stands 3\na 0 - 2\n" + line)
        for first, second in (("b", "a"), ("a", "a"), ("0", "a"), ("1", "0"), ("0", "d")):
            self.fails(BadText(3), read_trade, f"stands 1\n{first} 0\n{second} 0")
        self.fails(BadText(4), read_trade, "stands 1\na 0\n0 0\n")

    def test_what_does_not_run_out(self):
        self.fails(BadTrade(3), read_trade, "stands 7\na 0 0 0 0 0 0 0")
        self.fails(BadText(2), read_trade, "stands 7\na 0 0 0 0 0 0")
        self.fails(BadText(3), read_trade, "stands 7\na 0 0 0 0 0 0 0\nx")


class HouseTextTest(Case):
    def test_there_and_back(self):
        dice = random.Random(36)
        for spec in specs(37, 30) + [LONG]:
            house = random_house(dice, spec, 4)
            text = self.agrees(house_text, house=list(house)[::-1])
            self.assertEqual(text, " ".join(str(stand) for stand in house) or "empty")
            self.assertSame(read_house(trade=spec.trade, text=text), house)
        self.assertSame(house_text(()), "empty")
        self.assertSame(read_house(TIDE.trade, "empty"), ())
        self.assertSame(read_house(TIDE.trade, "2 0 2 1"), (0, 1, 2, 2))

    def test_wrong_texts(self):
        for value in NO_STRINGS:
            self.fails(BadText(0), read_house, TIDE.trade, value)
        for text in ("", " ", "0 ", " 0", "0  1", "00", "0 10", "x", "0 x", "-1", "0,1", "0\n1", "Empty", "empty 0", "0 empty",
                     "\u0662", "9 9 9 9 9 9 9 x"):
            self.fails(BadText(1), read_house, TIDE.trade, text)
        self.fails(BadHouse(1), read_house, TIDE.trade, "0 3 9")
        self.fails(BadHouse(6), read_house, TIDE.trade, "0 0 0 0 0 0 0")
        self.fails(BadHouse(4), read_house, LONG.trade, "0 0 0 0 0")

    def test_what_is_a_house_of_no_trade(self):
        for value in NO_SEQUENCES:
            self.fails(BadHouse(-1), house_text, value)
        for value in no_stands(LONG):
            self.fails(BadHouse(0), house_text, [value])
        self.fails(BadHouse(6), house_text, [0] * 7)
        self.fails(BadHouse(4), house_text, [6] * 5)


if __name__ == "__main__":
    unittest.main()
