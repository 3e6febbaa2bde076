import itertools
import random
import unittest

from helpers import ANY, Case, bends, is_shown_by, same
from rueless.counts import count_rows
from rueless.growths import growth, growth_holds, growth_paper
from rueless.machines import Machine
from test_machines import random_machine, slow_walk

EMPTY = Machine("", [[]])
# Two rings that begin with unlike letters at state 1, behind a beginning.
FORK = Machine("ab", [[1, None], [1, 2], [1, None]])
TWIN = Machine("ab", [[0, 0]])
# Rings in a line, the second of two states; then a state on none, and a state that no row leads to.
RINGS = Machine("ab0", [[0, 1, None], [2, None, 3], [1, None, None], [None, None, 4], [4, None, None], [5, 5, 5]])
ENDS = Machine("ab", [[1, 2], [2, None], [None, None], [3, 3]])


def states_met(machine):
    found = [machine.first]
    for state in found:
        found += [one for one in dict.fromkeys(machine.ways[state]) if one is not None and one not in found]
    return found


def leads(machine):
    """All pairs of states such that a row of at least one letter leads from the one to the other."""
    pairs = {(state, one) for state in states_met(machine) for one in machine.ways[state] if one is not None}
    while True:
        more = {(x, w) for x, y in pairs for z, w in pairs if y == z} - pairs
        if not more:
            return pairs
        pairs |= more


def slow_growth(machine):
    pairs = leads(machine)
    rings = {state for state in states_met(machine) if (state, state) in pairs}
    for state in rings:
        turns = [one for one in machine.ways[state] if one is not None and (one == state or (one, state) in pairs)]
        if len(turns) > 1:
            return ("doubling",)
    if not rings:
        length = 0
        while count_rows(machine, length + 1):
            length += 1
        return ("ends", length)
    # A row meets unlike rings one after another, each of which does not lead back.
    most = {}

    def count(state):
        if state not in most:
            most[state] = 1 + max([count(one) for one in rings if (state, one) in pairs and (one, state) not in pairs],
                                  default=0)
        return most[state]

    return ("power", max(count(state) for state in rings if state == machine.first or (machine.first, state) in pairs) - 1)


def led(machine, state, row):
    if state is None or type(row) is not str or not all(sign in machine.letters for sign in row):
        return None
    many, state = slow_walk(machine, state, row)
    return state if many == len(row) else None


def slow_holds(machine, paper):
    word, told, rows, levels = paper
    if word != "growth" or type(rows) is not tuple or type(told) is not tuple or type(levels) is not tuple:
        return False
    if told == ("doubling",):
        w, x, y = rows
        state = led(machine, machine.first, w)
        return (levels == () and state is not None and led(machine, state, x) == state == led(machine, state, y)
                and x[0] != y[0])
    name, number = told
    met = states_met(machine)
    if len(levels) != len(machine) or number < 0 or not all(level is None or level >= 0 for level in levels):
        return False
    ways = [(state, one) for state in met for one in machine.ways[state] if one is not None]
    if name == "ends":
        return (len(rows) == 1 and led(machine, machine.first, rows[0]) is not None
                and len(rows[0]) == number == levels[machine.first]
                and all(levels[one] < levels[state] for state, one in ways) and None not in [levels[one] for one in met])
    if name != "power" or len(rows) != 2 * number + 2 or len({levels[one] for one in met if levels[one] % 2}) > number + 1:
        return False
    for state in met:
        ahead = [levels[one] for two, one in ways if two == state]
        if any(level > levels[state] for level in ahead) or ahead.count(levels[state]) > levels[state] % 2:
            return False
    state, starts = machine.first, []
    for at in range(0, len(rows), 2):
        state = led(machine, state, rows[at])
        if state is None or not rows[at + 1] or led(machine, state, rows[at + 1]) != state:
            return False
        starts.append(levels[state])
    return starts == sorted(set(starts), reverse=True)


def machines(seed, many):
    dice = random.Random(seed)
    found = [EMPTY, FORK, TWIN, RINGS, ENDS]
    for _ in range(many):
        found.append(random_machine(dice, most=7, empty=dice.choice([0.5, 0.6, 0.7])))
        # Machines whose ways seldom lead back, so that rings stand in lines.
        count = dice.randrange(2, 8)
        ways = [[dice.choice([None, one, min(one + 1, count - 1)]) for _ in "ab"] for one in range(count)]
        found.append(Machine("ab", ways))
    return found


class GrowthTest(Case):
    def test_growths(self):
        found = set()
        for machine in machines(430, 250):
            told = slow_growth(machine)
            found.add(told)
            self.assertSame(self.agrees(growth, machine=machine), told)
        self.assertTrue({("doubling",), ("ends", 0), ("ends", 2), ("power", 0), ("power", 1), ("power", 2)} <= found)
        self.assertSame([growth(one) for one in (EMPTY, FORK, TWIN, RINGS, ENDS)],
                        [("ends", 0), ("doubling",), ("doubling",), ("power", 2), ("ends", 2)])
        self.assertSame(growth(RINGS.started(5)), ("doubling",))

    def test_what_holds_of_the_number_of_rows(self):
        for machine in machines(431, 60):
            told = growth(machine)
            counts = [count_rows(machine, length) for length in (6, 12, 24, 48, 96)]
            if told[0] == "ends":
                self.assertEqual(counts[-1], 0)
            elif told[0] == "doubling":
                self.assertGreater(counts[-1], 2 ** 5)
            else:
                for length, many in zip((6, 12, 24, 48, 96), counts):
                    self.assertTrue((length + 1) ** told[1] <= many * 60 ** told[1])
                    self.assertTrue(many <= 60 * (length + 1) ** told[1])

    def test_papers(self):
        for machine in machines(432, 200):
            paper = self.agrees(growth_paper, machine=machine)
            self.assertSame(paper[:2], ("growth", slow_growth(machine)))
            self.assertTrue(is_shown_by(slow_holds, machine, paper), (machine.ways, paper))
            self.assertIs(self.agrees(growth_holds, machine=machine, value=paper), True)

    def test_great_machines(self):
        line = Machine("a", [[one + 1 if one < 199 else None] for one in range(200)])
        self.assertSame((growth(line), growth_holds(line, growth_paper(line))), (("ends", 199), True))
        ring = Machine("ab", [[(one + 1) % 200, None] for one in range(200)])
        self.assertSame((growth(ring), growth_holds(ring, growth_paper(ring))), (("power", 0), True))
        many = Machine("ab", [[one, one + 1 if one < 199 else None] for one in range(200)])
        self.assertSame((growth(many), growth_holds(many, growth_paper(many))), (("power", 199), True))
        greatest = Machine("a", [[one + 1 if one < 1999 else None] for one in range(2000)])
        self.assertSame(growth(greatest), ("ends", 1999))
        dice = random.Random(433)
        full = Machine("abcd01", [[dice.randrange(2000) for _ in range(6)] for _ in range(2000)])
        self.assertSame(growth(full), ("doubling",))

    def test_bent_papers(self):
        dice = random.Random(434)
        held = []
        for machine in machines(435, 60):
            for bent in bends(dice, growth_paper(machine), 30):
                held.append(is_shown_by(slow_holds, machine, bent))
                self.assertIs(growth_holds(machine, bent), held[-1], (machine.letters, machine.ways, machine.first, bent))
        self.assertGreater(held.count(True), 300)
        self.assertGreater(held.count(False), 1000)

    def test_other_right_papers(self):
        told = ("power", 2)
        rows = ("a", "a", "baa", "aa", "00", "aaa")
        levels = (50, 17, 17, 8, 1, None)
        for bent, holds in (
                ((told, rows, levels), False), ((told, rows, (51,) + levels[1:]), True),
                ((told, rows, (51, 17, 17, 8, 1, 0)), True), ((told, rows, (51, 17, 17, 8, 1, "x")), False),
                ((told, rows, (51, 17, 17, 18, 1, 3)), False), ((told, rows, (51, 17, 16, 8, 1, 3)), False),
                ((told, rows, (51, 17, 17, 17, 1, 3)), False), ((told, rows, (51, 17, 17, 8, 0, 3)), False),
                ((told, rows, (51, 17, 17, None, 1, 3)), False), ((told, rows, (51, 17, 17, 9, 1, 3)), False),
                ((("power", 3), rows, (51, 17, 17, 9, 1, 3)), False), ((("power", 1), rows[:4], (51,) + levels[1:]), False),
                ((told, ("", "", "baa", "aa", "00", "aaa"), (51,) + levels[1:]), False),
                ((told, ("", "a", "b", "aa", "00", "a"), (51,) + levels[1:]), True),
                ((told, ("", "a", "b", "aa", "0", "a"), (51,) + levels[1:]), False),
                ((told, ("", "a", "", "a", "b00", "a"), (51,) + levels[1:]), False),
                ((told, ("", "a", "b", "aa", "", "aa"), (51,) + levels[1:]), False),
                ((told, rows[:5], (51,) + levels[1:]), False), ((told, rows + ("", "a"), (51,) + levels[1:]), False),
                ((("doubling",), ("", "a", "aa"), ()), False)):
            self.assertIs(growth_holds(RINGS, ("growth",) + bent), holds, bent)
            self.assertIs(is_shown_by(slow_holds, RINGS, ("growth",) + bent), holds, bent)
        for bent, holds in (
                ((("doubling",), ("a", "a", "ba"), ()), True), ((("doubling",), ("aaaba", "aba", "baba"), ()), True),
                ((("doubling",), ("a", "a", "aa"), ()), False), ((("doubling",), ("a", "a", ""), ()), False),
                ((("doubling",), ("a", "a", "ba"), (0,)), False), ((("doubling",), ("", "a", "ba"), ()), False),
                ((("doubling",), ("a", "a", "ba", ""), ()), False), ((("doubling",), ("a", "a", "b"), ()), False),
                ((("doubling",), ("b", "a", "ba"), ()), False), ((("doubling", 0), ("a", "a", "ba"), ()), False)):
            self.assertIs(growth_holds(FORK, ("growth",) + bent), holds, bent)
        for bent, holds in (
                ((("ends", 2), ("ab",), (2, 1, 0, None)), False), ((("ends", 2), ("aa",), (2, 1, 0, None)), True),
                ((("ends", 2), ("aa",), (2, 1, 0, 7)), True), ((("ends", 2), ("aa",), (3, 1, 0, None)), False),
                ((("ends", 2), ("aa",), (2, 1, 1, None)), False), ((("ends", 2), ("aa",), (2, 1, 0)), False),
                ((("ends", 1), ("a",), (2, 1, 0, None)), False), ((("ends", 3), ("aaa",), (3, 2, 0, None)), False),
                ((("ends", 3), ("aa",), (3, 2, 0, None)), False), ((("ends", 2), ("aa", "aa"), (2, 1, 0, None)), False),
                ((("ends", True), ("a",), (2, 1, 0, None)), False), ((("end", 2), ("aa",), (2, 1, 0, None)), False)):
            self.assertIs(growth_holds(ENDS, ("growth",) + bent), holds, bent)

    def test_any_values(self):
        for machine in (EMPTY, FORK, RINGS, ENDS):
            paper = growth_paper(machine)
            for value in ANY + [list(paper), paper[:3], paper + ((),)]:
                self.assertIs(growth_holds(machine, value), False)
                for at in range(4):
                    bent = paper[:at] + (value,) + paper[at + 1:]
                    self.assertIs(growth_holds(machine, bent), same(bent, paper) or is_shown_by(slow_holds, machine, bent))
        for words in itertools.product(("growth", "grows"), ("ends", "power", "doubling")):
            self.assertIs(growth_holds(EMPTY, (words[0], (words[1], 0), ("",), (0,))), words == ("growth", "ends"))


if __name__ == "__main__":
    unittest.main()
