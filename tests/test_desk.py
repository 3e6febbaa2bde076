import random
import unittest

from helpers import ANY, CROSSED, NO_STRINGS, RING, ROOMS, SILENT, STILL, TIDE, Case, Spec, specs
from rueless.counts import count_rows
from rueless.desk import Desk
from rueless.errors import BadHouse, BadText, BadTrade, NotRueless, TooGreat
from rueless.fellows import greatest_parts
from rueless.kindsets import safe_sets
from rueless.looks import fewest_looks
from rueless.machines import bag_machine
from rueless.rankings import first_ranking, first_ring
from rueless.stewards import Steward
from rueless.stories import least_story
from rueless.texts import house_text, trade_text
from rueless.twos import Table
from rueless.verdict import first_clash

SURE = Spec(4, {"a": [3, None, None, None], "b": [None, 3, None, None], "c": [3, 3, 2, None]})
RUEFUL_ALONE = Spec(3, {"a": [2, 1, 2], "b": [1, None, 0], "c": [None, 2, 0]}, {"0": [2, 0, 0]})
TOLD = [CROSSED, RING, ROOMS, SILENT, STILL, TIDE, SURE, RUEFUL_ALONE]
LETTER_WORDS = ("come", "choice", "beat", "shut", "let", "ranking", "looks")
NUMBER_WORDS = ("put", "take", "count", "lost")
WORDS = ("undo", "redo", "house", "row", "kinds", "front", "verdict", "story", "sets", "parts")


def told(things):
    return " ".join(str(one) for one in things) or "empty"


def state(yard):
    return (yard.house, yard.row, yard.whole_front, yard.shut_kinds, yard.trade.kinds)


def steward_line(table, call, kind):
    clash = first_clash(table)
    if clash is not None:
        return told(("rueful",) + clash)
    if kind not in list(table.trade.kinds):
        return "refused"
    numbers = call(Steward(table), kind)
    return told(("ring",) + first_ring(Steward(table), kind)) if numbers is None else told(numbers)


class DeskTest(Case):
    def test_texts(self):
        for spec in TOLD:
            text = trade_text(spec.trade)
            desk = Desk(text=text)
            self.assertEqual((desk.yard.whole, desk.yard.house), (spec.trade, ()))
            desk = Desk(text + "\n\n1 0")
            self.assertSame((desk.yard.house, desk.yard.shut_kinds, desk.yard.row), ((0, 1), "", ""))
            self.assertSame(Desk(text + "\n\nempty").yard.house, ())
        for value in NO_STRINGS:
            self.fails(BadText(0), Desk, value)
        good = "stands 2\na 1 -"
        for text, at in [("", 1), ("stands 2\na 1", 2), ("\n\n0", 1), ("stands 2\na 1 -\n", 3), ("stands 0\n\n0", 1),
                         (good + "\n\n", 1), (good + "\n\n0 x", 1), (good + "\n\n\n0", 1), (good + "\n\n0\n\n0", 1),
                         ("stands 2\n\na 1 -", 1), ("stands 2\nx\n\nx", 2), (good + "\n\n ", 1)]:
            self.fails(BadText(at), Desk, text)
        self.fails(BadHouse(1), Desk, good + "\n\n0 2")
        self.fails(BadHouse(6), Desk, good + "\n\n0 0 0 0 0 0 0")
        self.fails(BadTrade(3), Desk, "stands 7\na 0 - - - - - -\n\nx")

    def test_lines_that_are_none(self):
        desk = Desk(trade_text(TIDE.trade) + "\n\n0 1")
        before = state(desk.yard)
        lines = [word + end for word in WORDS for end in (" ", " a", " 0", "  ")]
        lines += [" " + word for word in WORDS + LETTER_WORDS + NUMBER_WORDS]
        lines += [word + end for word in LETTER_WORDS for end in ("", " ", " ab", "  a", " a ", "  ", " a b", " 10")]
        lines += [word + end for word in NUMBER_WORDS
                  for end in ("", " ", " a", " 00", " 01", " 100", " -1", " 1 ", "  1", " 1 1", " +1", " 1.0", " ", " \u0661")]
        lines += ["", " ", "come\ta", "House", "houses", "give a 0", "sets a", "quit", "put a", "nothing", "refused"]
        for line in lines + ANY:
            if line not in WORDS:
                self.fails(BadText(1), desk.tell, line)
        self.assertEqual(state(desk.yard), before)

    def test_deeds(self):
        desk = Desk("stands 3\na 0 - 2\nb 1 2 0\n0 1 2 0\n\n0 1")
        for line, lines in [
                ("come b", ("stand 1",)), ("house", ("0 2",)), ("row", ("b",)), ("front", ("0 2", "1 1")),
                ("choice a", ("stand 0",)), ("beat 0", ("0 1",)), ("row", ("b0",)), ("put 2", ("0 1 2",)),
                ("take 1", ("0 2",)), ("row", ("empty",)), ("undo", ("0 1 2",)), ("undo", ("0 1",)), ("redo", ("0 1 2",)),
                ("redo", ("0 2",)), ("redo", ("nothing",)), ("shut a", ("b",)), ("kinds", ("b",)), ("come a", ("refused",)),
                ("shut a", ("refused",)), ("let b", ("refused",)), ("shut b", ("empty",)), ("kinds", ("empty",)),
                ("sets", ("empty",)), ("let a", ("a",)), ("let b", ("ab",)), ("take 0", ("2",)), ("take 2", ("empty",)),
                ("house", ("empty",)), ("front", ("empty",)), ("choice a", ("nobody",)), ("come a", ("refused",)),
                ("take 2", ("refused",)), ("put 3", ("refused",)), ("put 99", ("refused",)), ("beat 1", ("refused",)),
                ("beat a", ("refused",)), ("come \n", ("refused",)), ("come 0", ("refused",)), ("choice %", ("refused",)),
                ("let 7", ("refused",)), ("undo", ("2",))]:
            self.assertSame(desk.tell(line=line), lines, line)
        desk = Desk("stands 1")
        self.assertSame([desk.tell(word) for word in ("undo", "redo", "row", "sets", "parts", "verdict", "story")],
                        [("nothing",), ("nothing",), ("empty",), ("empty",), ("0",), ("rueless",), ("none",)])
        full = Desk("stands 2\na 1 -\n\n0 0 0 0 0 0")
        self.assertSame((full.tell("put 1"), full.tell("undo")), (("refused",), ("nothing",)))

    def test_what_is_asked(self):
        found = set()
        dice = random.Random(1090)
        for spec in specs(1091, 40, stands=(2, 3), kinds=("", "a", "ab", "abc"), beats=("", "0"), empty=0.4) + TOLD:
            house = sorted(dice.randrange(spec.stands) for _ in range(dice.randrange(4)))
            desk = Desk(trade_text(spec.trade) + "\n\n" + house_text(house))
            for kind in spec.kinds:
                if dice.random() < 0.2:
                    self.assertSame(desk.tell(f"shut {kind}"), (desk.yard.trade.kinds or "empty",))
            yard = desk.yard
            trade, table = yard.trade, Table(yard.trade)
            clash = first_clash(table)
            self.assertSame(desk.tell("verdict"), ("rueless" if clash is None else told(("rueful",) + clash),))
            story = least_story(table)
            lines = ("none",) if story is None else (told(story[:3]), story[3] or "empty", story[4] or "empty")
            self.assertSame(desk.tell("story"), lines)
            self.assertSame(desk.tell("sets"), tuple(one or "empty" for one in safe_sets(trade)))
            self.assertSame(desk.tell("parts"), tuple(told(part) for part in greatest_parts(table)))
            for kind in "abcdx0":
                for word, call in (("ranking", first_ranking), ("looks", fewest_looks)):
                    line = steward_line(table, call, kind)
                    self.assertSame(desk.tell(f"{word} {kind}"), (line,))
                    found.add((word, line.split(" ")[0] if not line[0].isdigit() else "numbers"))
            for number in (0, 1, 2, 5):
                try:
                    line = str(count_rows(bag_machine(table, yard.house)[0], number))
                except NotRueless as error:
                    line = told(("rueful", error.kind, error.p, error.q))
                self.assertSame(desk.tell(f"count {number}"), (line,))
                found.add(("count", line.split(" ")[0] == "rueful"))
            before = state(yard)
            self.assertSame(desk.tell("house"), (house_text(yard.house),))
            self.assertEqual(state(yard), before)
        self.assertTrue({(word, line) for word in ("ranking", "looks") for line in ("rueful", "refused", "numbers")} <= found)
        self.assertTrue({("count", True), ("count", False)} <= found)
        self.assertIn(("ranking", "empty"), found)

    def test_rings(self):
        desk = Desk(trade_text(RING.trade) + "\n\n0 1 2")
        self.assertSame((desk.tell("ranking a"), desk.tell("looks a"), desk.tell("ranking b"), desk.tell("looks b")),
                        (("ring 0 2 1",), ("ring 0 2 1",), ("1 2",), ("0 0 1",)))
        self.assertSame((desk.tell("count 99"), desk.tell("count 0")), ((str(count_rows(
            bag_machine(Table(RING.trade), (0, 1, 2))[0], 99)),), ("1",)))

    def test_lost(self):
        desk = Desk(trade_text(CROSSED.trade) + "\n\n0 1")
        self.assertSame((desk.tell("lost 8"), desk.tell("come c"), desk.tell("lost 0"), desk.tell("lost 3")),
                        (("none",), ("stand 0",), ("none",), ("a",)))
        self.assertSame((desk.tell("story"), desk.tell("verdict")), (("c 0 1", "b", "a"), ("rueful c 0 1",)))
        self.assertSame((desk.tell("parts"), desk.tell("sets")), (("0 2", "1 2"), ("ab", "ac", "bc")))
        self.assertSame(desk.tell("lost 99"), ("a",))
        self.assertSame(Desk(trade_text(RUEFUL_ALONE.trade)).tell("parts")[0].replace(" ", "").replace("empty", ""),
                        "".join(str(stand) for stand in greatest_parts(Table(RUEFUL_ALONE.trade))[0]))

    def test_too_great(self):
        text = "stands 4\na 1 1 - 2\nb 0 3 - 2\n0 0 1 2 0\n1 2 1 0 3\n\n0 1 2"
        desk = Desk(text)
        self.assertEqual(len(desk.tell("count 4")), 1)
        desk.yard.lost = too_great
        self.assertSame(desk.tell("lost 2"), ("refused",))

    def test_two_desks(self):
        one, two = (Desk(trade_text(TIDE.trade) + "\n\n0 1") for _ in range(2))
        one.tell("beat 0")
        self.assertSame((one.tell("house"), two.tell("house"), two.tell("undo"), one.tell("undo")),
                        (("1 2",), ("0 1",), ("nothing",), ("0 1",)))


def too_great(letters):
    raise TooGreat(20000)


if __name__ == "__main__":
    unittest.main()
