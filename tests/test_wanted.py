import itertools
import random
import unittest

from helpers import ANY, NO_STRINGS, SILENT, STILL, TIDE, Case, no_letters, specs, without
from rueless.errors import BadRow, BadText, BadWants, NoRoom, Refused, TooGreat
from rueless.wanted import Wants, wanted_beside, wants_told

ORDER = "abcd01"
# Room 2 is one that nobody comes to; rooms 1 and 3 want the same rows.
IDLE = (("a", 1), ("0", 3)), (("b", 0),), (("d", 2),), (("b", 0),)


def random_ways(dice, most=6):
    rooms = dice.randrange(1, most + 1)
    return tuple(tuple((letter, dice.randrange(rooms)) for letter in ORDER if dice.random() < 0.3) for _ in range(rooms))


def walked(ways, row, room=0):
    for letter in row:
        room = dict(ways[room]).get(letter)
        if room is None:
            return None
    return room


def all_wanted(ways, most, letters=ORDER):
    """The wanted rows of at most so many letters, the first ones first."""
    found = level = [""]
    for _ in range(most):
        level = [row + letter for row in level for letter in letters if walked(ways, row + letter) is not None]
        found = found + level
    return found


def by_breadth(ways):
    """Whether rooms are numbered as rows meet them, letters in order."""
    met = [0]
    for room in met:
        for _, behind in ways[room]:
            if behind not in met:
                met.append(behind)
    return met == list(range(len(ways)))


class WantsTest(Case):
    def test_attributes(self):
        dice = random.Random(980)
        for _ in range(60):
            ways = random_ways(dice)
            wants = Wants([[list(pair) for pair in room] for room in ways])
            self.assertSame((wants.ways, wants.rooms), (ways, len(ways)))
            used = {letter for room in ways for letter, _ in room}
            self.assertSame(wants.letters, "".join(letter for letter in ORDER if letter in used))
            self.assertEqual(wants, Wants(ways=ways))
            self.assertFalse(any(wants == value for value in ANY))
            for room in range(len(ways)):
                self.assertSame(self.agrees(wants.letters_at, room=room), "".join(letter for letter, _ in ways[room]))
                for letter in ORDER:
                    self.assertSame(self.agrees(wants.after, room=room, letter=letter), dict(ways[room]).get(letter))
        self.assertNotEqual(Wants([[("a", 0)]]), Wants([[("b", 0)]]))
        told = [[["a", 0]]]
        wants = Wants(told)
        told[0].append(["b", 0])
        told[0][0][1] = 5
        self.assertSame((wants.ways, wants.text), (((("a", 0),),), "0: a 0"))
        with self.assertRaises(TypeError):
            list(wants)

    def test_wrong_ways(self):
        for value in without(ANY, lambda one: isinstance(one, (list, tuple)) and 1 <= len(one) <= 6) + [[[]] * 7]:
            self.fails(BadWants(-1), Wants, value)
        self.assertSame(Wants([[]] * 6).ways, ((),) * 6)
        for value in without(ANY, lambda one: isinstance(one, (list, tuple)) and len(one) == 0):
            self.fails(BadWants(1), Wants, [[], value, None])
            self.fails(BadWants(1), Wants, ([("a", 0)], [value]))
        for room in [[("a", 2)], [("a", -1)], [("a", True)], [("a", 0), ("a", 1)], [("b", 0), ("a", 0)], [("0", 0), ("a", 0)],
                     [("e", 0)], [("ab", 0)], [("", 0)], [("a",)], [("a", 0, 0)], ["a0"], [(0, "a")], [None]]:
            self.fails(BadWants(0), Wants, [room, None])
            self.fails(BadWants(1), Wants, [[("a", 1)], room])

    def test_wrong_rooms_and_letters(self):
        wants = Wants(IDLE)
        for value in without(ANY, lambda one: type(one) is int and 0 <= one < 4) + [4]:
            self.fails(NoRoom(value), wants.after, value, None)
            self.fails(NoRoom(value), wants.letters_at, value)
        for value in no_letters(ORDER) + ["b", "1"]:
            self.assertIsNone(wants.after(0, value))

    def test_rows(self):
        dice = random.Random(981)
        for _ in range(40):
            ways = random_ways(dice)
            wants = Wants(ways)
            rows = all_wanted(ways, 4)
            for row in ("".join(dice.choice(ORDER) for _ in range(dice.randrange(6))) for _ in range(30)):
                self.assertSame(self.agrees(wants.room_of, row=row), walked(ways, row))
                self.assertIs(self.agrees(wants.wants_row, value=row), walked(ways, row) is not None)
            for row in rows:
                self.assertIs(wants.wants_row(row), True)
            for length in range(5):
                self.assertSame(self.agrees(wants.row_count, length=length), len([row for row in rows if len(row) == length]))
        wants = Wants([[("a", 0), ("b", 0)]])
        self.assertSame((wants.row_count(200), wants.room_of("ab" * 100), wants.wants_row("a" * 201)), (2 ** 200, 0, False))
        for value in without(ANY, lambda one: type(one) is int and 0 <= one <= 200) + [201]:
            self.fails(Refused(value), wants.row_count, value)
        for value in NO_STRINGS + ["x", "aé", "a" * 201, "A", "abcd01 "]:
            self.fails(BadRow(0), wants.room_of, value)
            self.assertIs(wants.wants_row(value), False)
        self.assertSame(wants.room_of("0"), None)


class TextTest(Case):
    def test_texts(self):
        dice = random.Random(982)
        for _ in range(60):
            ways = random_ways(dice)
            text = "\n".join(f"{room}: " + (" , ".join(f"{letter} {behind}" for letter, behind in pairs) or "none")
                             for room, pairs in enumerate(ways))
            self.assertSame(Wants(ways).text, text)
            self.assertEqual(Wants.parse(text=text), Wants(ways))
            self.assertSame(Wants.parse(text).ways, ways)
        self.assertSame(Wants(IDLE).text, "0: a 1 , 0 3\n1: b 0\n2: d 2\n3: b 0")
        made = Wants.of_rows(["a" * 11])
        self.assertSame(made.text.split("\n")[9:], ["9: a 10", "10: a 11", "11: none"])
        self.assertEqual(Wants.parse("0: none"), Wants([[]]))

    def test_wrong_texts(self):
        for value in NO_STRINGS:
            self.fails(BadText(0), Wants.parse, value)
        good = ["0: a 1", "1: none"]
        self.assertSame(Wants.parse("\n".join(good)).ways, ((("a", 1),), ()))
        for line in ["", "0:", "0: ", "0:a 1", "0:  a 1", " 0: a 1", "1: a 1", "00: a 1", "0: a 2", "0: a 01", "0: a 6",
                     "0: a -1", "0: a", "0: a 1 ", "0: a  1", "0: a 1,b 1", "0: a 1 ,b 1", "0: a 1 , ", "0: a 1 ,  b 1",
                     "0: b 1 , a 1", "0: a 1 , a 0", "0: e 1", "0: ab 1", "0: None", "0: none , a 1", "0: a 1 , none",
                     "0: none ", "0 : none", "0: 1 a", "x", "0: a 1 1", "0: A 1", "0: a\t1", "0: \u0661 1", "0: a \u0661"]:
            self.fails(BadText(1), Wants.parse, "\n".join([line, "x"]))
            self.fails(BadText(1), Wants.parse, "\n".join([line] + good[1:]))
        for line in ["", "1:", "1: ", "0: a 0", "2: a 0", "1: a 3", "1: b 0 , a 0", "1: a 0 , a 0", "1: x 0", "1: a 00"]:
            self.fails(BadText(2), Wants.parse, "\n".join(["0: a 0", line, "x"]))
        lines = [f"{room}: a {room}" for room in range(6)]
        self.assertSame(Wants.parse("\n".join(lines)).rooms, 6)
        self.fails(BadText(7), Wants.parse, "\n".join(lines + ["6: none"]))
        self.fails(BadText(7), Wants.parse, "\n".join(lines + ["x"] * 90))
        self.fails(BadText(6), Wants.parse, "\n".join(lines[:5] + ["5: a 6", "6: none"]))
        self.fails(BadText(1), Wants.parse, "0: a 1")
        self.fails(BadText(3), Wants.parse, "0: a 1\n1: none\n")
        self.fails(BadText(2), Wants.parse, "0: none\n\n2: none")
        self.fails(BadText(1), Wants.parse, "")


class MadeTest(Case):
    def assertWants(self, wants, is_wanted, letters=ORDER, most=4):
        for length in range(most + 1):
            for signs in itertools.product(letters, repeat=length):
                row = "".join(signs)
                self.assertIs(wants.wants_row(row), is_wanted(row), row)

    def test_every(self):
        for spec in specs(983, 10) + [TIDE, SILENT, STILL]:
            wants = Wants.every(trade=spec.trade)
            self.assertSame(wants.ways, (tuple((letter, 0) for letter in spec.letters),))
            self.assertSame((wants.letters, wants.rooms), (spec.letters, 1))

    def test_of_rows(self):
        dice = random.Random(984)
        for _ in range(60):
            rows = ["".join(dice.choice("abc0") for _ in range(dice.randrange(4))) for _ in range(dice.randrange(6))]
            wants = Wants.of_rows(rows=rows)
            beginnings = sorted({row[:n] for row in rows for n in range(len(row) + 1)} | {""},
                                key=lambda row: (len(row), [ORDER.index(letter) for letter in row]))
            # By breadth is by length, then by the letters, as each beginning is led to by one row.
            self.assertSame(wants.ways, tuple(
                tuple((letter, beginnings.index(row + letter)) for letter in ORDER if row + letter in beginnings)
                for row in beginnings))
            self.assertEqual(wants, Wants.of_rows(tuple(rows[::-1] + rows)))
        self.assertSame(Wants.of_rows([]).ways, ((),))
        self.assertSame(Wants.of_rows([""]).ways, ((),))
        self.assertEqual(Wants.of_rows(["a" * 39]).rooms, 40)
        self.fails(TooGreat(40), Wants.of_rows, ["a" * 40])
        self.fails(TooGreat(40), Wants.of_rows, ["a" * 20, "b" * 20])
        self.assertEqual(Wants.of_rows(["a" * 20, "b" * 19]).rooms, 40)
        for value in NO_STRINGS + ["x", "a" * 201, "ab "]:
            self.fails(BadRow(1), Wants.of_rows, ["a" * 60, value, None])

    def test_both(self):
        dice = random.Random(985)
        for _ in range(40):
            one, two = random_ways(dice), random_ways(dice)
            wants = Wants(one).both(other=Wants(two))
            rows = all_wanted(one, 4)
            self.assertEqual(all_wanted(wants.ways, 4), [row for row in rows if walked(two, row) is not None])
            queue = [(0, 0)]
            for pair in queue:
                for letter in ORDER:
                    behind = dict(one[pair[0]]).get(letter), dict(two[pair[1]]).get(letter)
                    if None not in behind and behind not in queue:
                        queue.append(behind)
            self.assertEqual(wants.rooms, len(queue))
            self.assertTrue(by_breadth(wants.ways))
        long = Wants.of_rows(["a" * 30])
        ring = Wants([[("a", 1)], [("a", 0)]])
        self.assertEqual(long.both(ring).rooms, 31)

    def test_both_with_too_many_rooms(self):
        one = Wants([[("a", (room + 1) - 5 * (room == 4))] for room in range(5)])
        two = Wants([[("a", (room + 1) - 6 * (room == 5))] for room in range(6)])
        made = one.both(two)
        self.assertEqual(made.rooms, 30)
        four = Wants([[("a", (room + 1) - 4 * (room == 3))] for room in range(4)])
        self.fails(TooGreat(40), made.both, four)
        three = Wants([[("a", 1)], [("a", 2)], [("a", 0)]])
        self.assertEqual(made.both(three).rooms, 30)

    def test_without(self):
        dice = random.Random(986)
        for _ in range(40):
            ways = random_ways(dice)
            letters = "".join(dice.sample(ORDER, dice.randrange(4)))
            wants = Wants(ways).without(letters=letters)
            self.assertEqual(all_wanted(wants.ways, 4), [row for row in all_wanted(ways, 4) if not set(row) & set(letters)])
            met = {walked(ways, row) for row in all_wanted(ways, 6, [one for one in ORDER if one not in letters])}
            self.assertEqual(wants.rooms, len(met))
            self.assertTrue(by_breadth(wants.ways))
        self.assertSame(Wants(IDLE).without("").ways, ((("a", 1), ("0", 2)), (("b", 0),), (("b", 0),)))
        self.assertSame(Wants(IDLE).without("0x").ways, ((("a", 1),), (("b", 0),)))

    def test_least(self):
        dice = random.Random(987)
        found = set()
        for ways in [random_ways(dice) for _ in range(60)] + [IDLE, Wants.of_rows(["ca", "cb"]).ways]:
            wants = Wants(ways).least()
            self.assertEqual(all_wanted(wants.ways, 5), all_wanted(ways, 5))
            met = {walked(ways, row) for row in all_wanted(ways, 6)}
            told = {tuple(row for row in all_rows_from(ways, room, 6)) for room in met}
            self.assertEqual(wants.rooms, len(told))
            self.assertTrue(by_breadth(wants.ways))
            self.assertEqual(wants.least(), wants)
            found.add((len(met) < len(ways), len(told) < len(met)))
        self.assertEqual(len(found), 4)
        self.assertSame(Wants(IDLE).least().ways, ((("a", 1), ("0", 1)), (("b", 0),)))
        self.assertSame(Wants.of_rows(["ca", "cb"]).least().ways, ((("c", 1),), (("a", 2), ("b", 2)), ()))

    def test_beside(self):
        dice = random.Random(988)
        many = 0
        for _ in range(60):
            one, two = random_ways(dice, 4), random_ways(dice, 4)
            told = next((row for row in all_wanted(one, 5) if walked(two, row) is None), None)
            row = wanted_beside(one=Wants(one), other=Wants(two))
            if told is None and row is not None:
                self.assertGreater(len(row), 5)
            else:
                self.assertSame(row, told)
            many += told is not None and len(told) > 1
            self.assertIsNone(wanted_beside(Wants(one), Wants(one).least()))
        self.assertGreater(many, 3)
        self.assertSame(wanted_beside(Wants.of_rows(["a" * 39]), Wants.of_rows(["a" * 38])), "a" * 39)
        three = Wants([[("a", 1)], [("a", 2)], [("a", 0), ("b", 0)]])
        self.assertSame(wanted_beside(three, three.both(Wants.of_rows(["a" * 12 + "b"]))), "aab")

    def test_told(self):
        dice = random.Random(989)
        for _ in range(40):
            ways = random_ways(dice)
            self.assertEqual(wants_told(value=ways), Wants(ways))
            self.assertSame(wants_told(ways).text, Wants(ways).text)
            for bent in (list(ways), ways[:-1] + (list(ways[-1]),), ways[:-1] + ((["a", 0],),), ways + ((("a", 9),),),
                         ways + ((("a", True),),), ways + ((("b", 0), ("a", 0)),), ways + (None,), ways + ((("a", 0, 0),),)):
                self.assertIsNone(wants_told(bent))
        long = Wants.of_rows(["a" * 39])
        self.assertEqual(wants_told(long.ways), long)
        self.assertIsNone(wants_told(long.ways + ((),)))
        for value in ANY:
            self.assertIsNone(wants_told(value))
        self.assertEqual(wants_told(((),)), Wants([[]]))


def all_rows_from(ways, room, most):
    found = level = [""]
    for _ in range(most):
        level = [row + letter for row in level for letter in ORDER if walked(ways, row + letter, room) is not None]
        found = found + level
        if len(found) > 3000:
            break
    return found


if __name__ == "__main__":
    unittest.main()
