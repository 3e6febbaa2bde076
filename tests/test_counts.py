import itertools
import random
import unittest

from helpers import ANY, NO_STRINGS, Case, without
from rueless.counts import count_rows, count_upto, longest_row, numbered_row, row_number
from rueless.errors import BadRow, Refused, TooGreat
from rueless.machines import Machine
from test_machines import random_machine, slow_walk

EMPTY = Machine("", [[], []], first=1)
DEAF = Machine("ab0", [[None] * 3, [0, 1, 1]])
ALL = Machine("abcd01", [[0] * 6])
RING = Machine("a", [[(one + 1) % 300] for one in range(300)])


def rows_read(machine, most):
    """All rows of at most so many letters that are read, in order."""
    found = []
    for length in range(most + 1):
        for signs in itertools.product(machine.letters, repeat=length):
            row = "".join(signs)
            if slow_walk(machine, machine.first, row)[0] == length:
                found.append(row)
    return found


def line(states, letters="a"):
    """A machine that reads each row of fewer letters than it has states, and no other one."""
    return Machine(letters, [[one + 1 if one + 1 < states else None] * len(letters) for one in range(states)])


class CountsTest(Case):
    def machines(self, seed, many):
        dice = random.Random(seed)
        return [random_machine(dice) for _ in range(many)] + [EMPTY, DEAF, line(3), line(4, "b1")]

    def test_counts_and_numbers(self):
        ended = set()
        for machine in self.machines(420, 120):
            rows = rows_read(machine, 5)
            for length in range(6):
                many = len([row for row in rows if len(row) == length])
                self.assertSame(self.agrees(count_rows, machine=machine, length=length), many)
                upto = len([row for row in rows if len(row) <= length])
                self.assertSame(self.agrees(count_upto, machine=machine, length=length), upto)
            for number, row in enumerate(rows):
                self.assertSame(self.agrees(row_number, machine=machine, row=row), number)
                self.assertSame(self.agrees(numbered_row, machine=machine, number=number), row)
            is_ended = len(rows[-1]) < 5
            ended.add(is_ended)
            if is_ended:
                for number in (len(rows), len(rows) + 1, 10 ** 30):
                    self.assertSame(numbered_row(machine, number), None)
        self.assertEqual(ended, {True, False})

    def test_great_lengths(self):
        self.assertSame(count_rows(ALL, 200), 6 ** 200)
        self.assertSame(count_upto(ALL, 200), (6 ** 201 - 1) // 5)
        number = (6 ** 200 - 1) // 5
        self.assertSame(row_number(ALL, "a" * 200), number)
        self.assertSame(numbered_row(ALL, number), "a" * 200)
        self.assertSame(numbered_row(ALL, number + 6 ** 200 - 1), "1" * 200)
        self.assertSame(row_number(ALL, "1" * 200), number + 6 ** 200 - 1)
        self.assertSame(numbered_row(ALL, number + 7 * 6 ** 30), "a" * 168 + "bb" + "a" * 30)
        self.fails(TooGreat(200), numbered_row, ALL, number + 6 ** 200)
        self.assertSame((count_rows(RING, 200), count_upto(RING, 200)), (1, 201))
        self.assertSame((numbered_row(RING, 200), row_number(RING, "a" * 200)), ("a" * 200, 200))
        self.fails(TooGreat(200), numbered_row, RING, 201)
        dice = random.Random(421)
        many = Machine("ab0", [[dice.randrange(2000), dice.randrange(2000), None] for _ in range(2000)])
        self.assertSame(count_rows(many, 200), 2 ** 200)
        self.assertSame(numbered_row(many, row_number(many, "ab" * 100)), "ab" * 100)

    def test_rows_of_just_two_hundred_letters(self):
        for states, told in ((200, None), (201, TooGreat(200)), (202, TooGreat(200))):
            machine = line(states)
            self.assertSame(numbered_row(machine, min(states, 201) - 1), "a" * (min(states, 201) - 1))
            for number in (states, 10 ** 40):
                if told is None:
                    self.assertSame(numbered_row(machine, number), None)
                else:
                    self.fails(told, numbered_row, machine, max(number, 201))

    def test_longest_rows(self):
        found = set()
        for machine in self.machines(422, 200):
            rows = rows_read(machine, 6)
            longest = len(rows[-1])
            told = None if longest == 6 else [row for row in rows if len(row) == longest][0]
            found.add(told)
            self.assertSame(self.agrees(longest_row, machine=machine), told)
        self.assertGreater(len(found), 5)
        self.assertSame((longest_row(EMPTY), longest_row(DEAF), longest_row(RING)), ("", "", None))
        self.assertSame(longest_row(DEAF.started(1)), None)
        self.assertSame(longest_row(line(201, "b1")), "b" * 200)
        for states in (202, 300, 2000):
            self.fails(TooGreat(200), longest_row, line(states))
        # Of two longest rows the first one; rings that rows don't lead to are nothing.
        machine = Machine("ab", [[3, 1], [2, None], [None, None], [None, 2], [4, 4]])
        self.assertSame(longest_row(machine), "ab")

    def test_rows_that_are_not_read(self):
        dice = random.Random(423)
        for machine in self.machines(424, 60):
            for _ in range(10):
                row = "".join(dice.choice(machine.letters) for _ in range(dice.randrange(7))) if machine.letters else ""
                many = slow_walk(machine, machine.first, row)[0]
                if many < len(row):
                    self.fails(Refused(many), row_number, machine, row)

    def test_wrong_values(self):
        machine = Machine("ab", [[0, None]])
        for value in without(ANY, lambda value: type(value) is int and 0 <= value <= 200) + [201, 1000]:
            self.fails(Refused(value), count_rows, machine, value)
            self.fails(Refused(value), count_upto, machine, value)
        for value in without(ANY, lambda value: type(value) is int and value >= 0):
            self.fails(Refused(value), numbered_row, machine, value)
        for value in NO_STRINGS:
            self.fails(BadRow(-1), row_number, machine, value)
        self.fails(BadRow(2), row_number, machine, "bb0" + "b" * 300)
        self.fails(BadRow(200), row_number, machine, "b" * 201)
        self.fails(Refused(0), row_number, machine, "b" * 200)
        self.fails(Refused(199), row_number, machine, "a" * 199 + "b")
        self.fails(BadRow(0), row_number, EMPTY, "a")
        self.assertSame((count_rows(EMPTY, 0), count_rows(EMPTY, 1), count_upto(EMPTY, 200)), (1, 0, 1))
        self.assertSame((row_number(EMPTY, ""), numbered_row(EMPTY, 0), numbered_row(EMPTY, 1)), (0, "", None))


if __name__ == "__main__":
    unittest.main()
