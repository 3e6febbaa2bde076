import itertools
import random
import unittest

from helpers import (ANY, CROSSED, JOINT, NO_SEQUENCES, RING, ROOMS, SILENT, STILL, TIDE, Case, Spec, bends, is_shown_by,
                     random_house, rueless_specs, same, specs, without)
from rueless.errors import BadHouse, BadMachine, NotRueless, Refused, TooGreat
from rueless.houses import all_houses, house_count
from rueless.machines import Machine, front_machine
from rueless.rows import front_of
from rueless.twins import (alike_houses, class_depth, first_difference, is_least, least_machine, many_states, row_beside,
                           state_classes, states_holds)
from rueless.twos import Table
from test_machines import random_machine, slow_walk

EMPTY = Machine("", [[]])


def slow_parting(machine, one, other):
    """The first row that can be walked from just one of two states, or None: level by level."""
    if (one is None) != (other is None):
        return ""
    level, seen = [("", one, other)], {(one, other)}
    while level:
        following = []
        for row, x, y in level:
            for at, letter in enumerate(machine.letters):
                pair = machine.ways[x][at], machine.ways[y][at]
                if (pair[0] is None) != (pair[1] is None):
                    return row + letter
                if pair[0] is not None and pair not in seen:
                    seen.add(pair)
                    following.append((row + letter,) + pair)
        level = following
    return None


def joined(one, other):
    """A machine with the states of both, the second ones behind the first ones."""
    shift = [[None if way is None else way + len(one) for way in ways] for ways in other.ways]
    return Machine(one.letters, list(one.ways) + shift, first=one.first)


def machines(seed, many):
    """Pairs of machines with the same letters; some read the same rows with unlike numbers of states."""
    dice = random.Random(seed)
    for _ in range(many):
        one = random_machine(dice)
        other = random_machine(dice, letters=(one.letters,))
        if dice.random() < 0.4:
            # The same ways, told twice over and in another order.
            order = dice.sample(range(2 * len(one)), 2 * len(one))
            ways = [None] * (2 * len(one))
            for at, place in enumerate(order):
                steps = one.ways[at % len(one)]
                ways[place] = [None if way is None else order[way + dice.choice([0, len(one)])] for way in steps]
            other = Machine(one.letters, ways, first=order[one.first])
        yield one, other
    yield EMPTY, Machine("", [[], []], first=1)


class TwinsTest(Case):
    def test_differences(self):
        found = set()
        for one, other in machines(440, 200):
            both = joined(one, other)
            row = slow_parting(both, one.first, other.first + len(one))
            told = None if row is None else (row, 0 if slow_walk(one, one.first, row)[0] == len(row) else 1)
            found.add(told if told is None else told[1])
            self.assertSame(self.agrees(first_difference, one=one, other=other), told)
        self.assertEqual(found, {None, 0, 1})

    def test_rows_beside(self):
        found = set()
        for one, other in machines(441, 200):
            level, seen, told = [("", one.first, other.first)], set(), None
            while level and told is None:
                following = []
                for row, x, y in level:
                    for at, letter in enumerate(one.letters):
                        pair = one.ways[x][at], other.ways[y][at]
                        if pair[0] is not None and pair[1] is None:
                            told = told or row + letter
                        elif pair[0] is not None and pair not in seen:
                            seen.add(pair)
                            following.append((row + letter,) + pair)
                level = following
            found.add(told)
            self.assertSame(self.agrees(row_beside, one=one, other=other), told)
        self.assertGreater(len(found), 10)

    def test_other_letters(self):
        for one, other in itertools.permutations([EMPTY, Machine("a", [[0]]), Machine("ab", [[0, 0]]),
                                                  Machine("b", [[0]])], 2):
            self.fails(BadMachine("letters"), first_difference, one, other)
            self.fails(BadMachine("letters"), row_beside, one, other)

    def test_classes(self):
        depths = set()
        for one, other in machines(442, 120):
            machine = joined(one, other)
            rows = {pair: slow_parting(machine, *pair) for pair in itertools.combinations(range(len(machine)), 2)}
            depth = max([len(row) for row in rows.values() if row is not None], default=0)
            depths.add(depth)
            for letters in list(range(depth + 2)) + [1000, None]:
                told = []
                for state in range(len(machine)):
                    alike = [at for at in range(state) if rows[(at, state)] is None
                             or letters is not None and len(rows[(at, state)]) > letters]
                    told.append(told[alike[0]] if alike else len(set(told)))
                self.assertSame(self.agrees(state_classes, machine=machine, letters=letters), tuple(told))
            self.assertSame(state_classes(machine), state_classes(machine, letters=depth))
            self.assertSame(self.agrees(class_depth, machine=machine), depth)
        self.assertTrue({0, 1, 2, 3} <= depths)

    def test_least_machines(self):
        found = set()
        for one, other in machines(443, 150):
            for machine in (one, other):
                least = least_machine(machine=machine)
                met = [machine.first]
                for state in met:
                    met += [way for way in dict.fromkeys(machine.ways[state]) if way is not None and way not in met]
                firsts = []
                for state in met:
                    if not any(slow_parting(machine, state, first) is None for first in firsts):
                        firsts.append(state)
                number = {state: [slow_parting(machine, state, first) for first in firsts].index(None) for state in met}
                ways = tuple(tuple(None if way is None else number[way] for way in machine.ways[first])
                             for first in firsts)
                self.assertSame((least.letters, least.ways, least.first), (machine.letters, ways, 0))
                found.add(is_least(machine))
                self.assertIs(self.agrees(is_least, machine=machine), (machine.ways, machine.first) == (ways, 0))
                self.assertIs(is_least(least), True)
        self.assertEqual(found, {True, False})

    def test_great_machines(self):
        line = Machine("a", [[one + 1 if one < 1999 else None] for one in range(2000)])
        self.assertSame((class_depth(line), is_least(line), state_classes(line, letters=3)[-5:]),
                        (1999, True, (0, 0, 1, 2, 3)))
        self.assertSame(first_difference(line, line.started(1)), ("a" * 1999, 0))
        self.assertSame(first_difference(line.started(1), line), ("a" * 1999, 1))
        ring = Machine("ab", [[(one + 1) % 2000, None if one else 5] for one in range(2000)])
        self.assertSame((class_depth(ring), len(least_machine(ring))), (1999, 2000))
        self.assertSame(first_difference(ring, ring.started(1999)), ("b", 0))
        one = Machine("a", [[(at + 1) % 401] for at in range(401)])
        other = Machine("a", [[at + 1 if at < 398 else None] for at in range(399)])
        self.assertSame((row_beside(one, other), row_beside(other, one)), ("a" * 399, None))


class AlikeHousesTest(Case):
    def test_houses(self):
        merged = 0
        for spec in rueless_specs(444, 20) + [JOINT, RING, ROOMS, SILENT, STILL, TIDE]:
            table = Table(spec.trade)
            for places in range(3):
                told = []
                for house in all_houses(spec.trade, places):
                    for group in told:
                        if spec.parting(house, group[0]) is None and spec.parting(group[0], house) is None:
                            group.append(house)
                            break
                    else:
                        told.append([house])
                merged += any(len(group) > 1 for group in told)
                groups = tuple(tuple(group) for group in told)
                self.assertSame(self.agrees(alike_houses, table=table, places=places), groups)
        self.assertGreater(merged, 10)

    def test_errors(self):
        for value in without(ANY, lambda value: type(value) is int and 0 <= value <= 6) + [7]:
            self.fails(Refused(value), alike_houses, Table(ROOMS.trade), value)
            self.fails(NotRueless("c", 0, 1), alike_houses, Table(CROSSED.trade), value)
        self.assertSame(len(alike_houses(Table(ROOMS.trade), 6)), 28)


def slow_states(spec, house, paper):
    word, rows, partings = paper
    if word != "states" or len(rows) <= house_count(spec.trade, len(house)) or type(rows) is not tuple:
        return False
    if not all(spec.serves(house, row) and len(row) <= 200 for row in rows) or type(partings) is not tuple:
        return False
    if [one[:2] for one in partings] != list(itertools.combinations(range(len(rows)), 2)):
        return False
    for i, j, row in partings:
        if max(len(rows[i]), len(rows[j])) + len(row) > 200:
            return False
        if spec.serves(house, rows[i] + row) == spec.serves(house, rows[j] + row):
            return False
    return all(type(one) is tuple for one in partings)


class ManyStatesTest(Case):
    def cases(self, seed, many):
        dice = random.Random(seed)
        for spec in specs(seed + 1, many, stands=(2, 3), kinds=("a", "ab", "abc")) + [CROSSED, ROOMS, TIDE, STILL]:
            yield spec, random_house(dice, spec, 2)
        for spec in hard_specs():
            yield spec, (0, 1)

    def test_many_states(self):
        found = set()
        for spec, house in self.cases(445, 80):
            machine, fronts = front_machine(spec.trade, house)
            classes = state_classes(machine)
            many = house_count(spec.trade, len(house)) + 1
            paper = self.agrees(many_states, trade=spec.trade, house=list(house)[::-1])
            found.add(paper is None)
            if len(set(classes)) < many:
                self.assertIsNone(paper)
                continue
            states = [classes.index(number) for number in range(many)]
            firsts = {}
            for row in spec.rows(6):
                state = slow_walk(machine, 0, row)
                if state[0] == len(row):
                    firsts.setdefault(state[1], row)
            rows = tuple(firsts[state] for state in states)
            partings = tuple((i, j, slow_parting(machine, states[i], states[j]))
                             for i, j in itertools.combinations(range(many), 2))
            self.assertSame(paper, ("states", rows, partings))
            self.assertEqual([front_of(spec.trade, house, row) for row in rows], [fronts[state] for state in states])
            self.assertIs(states_holds(trade=spec.trade, house=list(house)[::-1], value=paper), True)
            self.assertTrue(is_shown_by(slow_states, spec, house, paper))
            for most in (len(machine), len(machine) + 1):
                self.assertSame(many_states(spec.trade, house, most=most), paper)
            self.fails(TooGreat(len(machine) - 1), many_states, spec.trade, house, most=len(machine) - 1)
        self.assertEqual(found, {True, False})

    def test_bent_papers(self):
        dice = random.Random(446)
        held = []
        for spec in hard_specs():
            paper = many_states(spec.trade, (0, 1))
            for bent in bends(dice, paper, 60):
                held.append(is_shown_by(slow_states, spec, (0, 1), bent))
                self.assertIs(states_holds(spec.trade, (0, 1), bent), held[-1], bent)
            self.assertIs(states_holds(spec.trade, (), paper), is_shown_by(slow_states, spec, (), paper))
        self.assertGreater(held.count(True), 10)
        self.assertGreater(held.count(False), 100)

    def test_any_values(self):
        spec = hard_specs()[0]
        paper = many_states(spec.trade, (0, 1))
        for value in ANY + [list(paper), paper[:2], paper + ((),), ("state",) + paper[1:]]:
            self.assertIs(states_holds(spec.trade, (0, 1), value), False)
            for at in range(3):
                bent = paper[:at] + (value,) + paper[at + 1:]
                self.assertIs(states_holds(spec.trade, (0, 1), bent), same(bent, paper))
        word, rows, partings = paper
        self.assertIs(states_holds(spec.trade, (0, 1), (word, rows[:-1], tuple(
            one for one in partings if one[1] < len(rows) - 1))), False)
        # A row that is not served is parted from all others by the empty row.
        lost = [row for row in spec.rows(6) if not spec.serves((0, 1), row)][0]
        last = len(rows) - 1
        bent = (word, rows[:-1] + (lost,), tuple(one if one[1] < last else (one[0], last, "") for one in partings))
        self.assertIs(states_holds(spec.trade, (0, 1), bent), False)
        for value in NO_SEQUENCES:
            self.fails(BadHouse(-1), many_states, spec.trade, value, most=1)
            self.fails(BadHouse(-1), states_holds, spec.trade, value, None)
        self.fails(BadHouse(1), states_holds, spec.trade, [0, 9], paper)
        self.fails(TooGreat(1), many_states, spec.trade, (0, 1), most=1)

    def test_long_rows(self):
        # A beat that changes nothing makes rows as long as one likes.
        spec = hard_specs([0, 1, 2])[0]
        word, rows, partings = many_states(spec.trade, (0, 1))
        longest = max(len(row) for i, j, row in partings if 0 in (i, j))
        for more, told in ((200 - longest, True), (201 - longest, False), (200, False), (201, False)):
            longer = (rows[0] + "0" * more,) + rows[1:]
            self.assertIs(states_holds(spec.trade, (0, 1), (word, longer, partings)), told)
        for more, told in ((200 - len(rows[1]), True), (201 - len(rows[1]), False)):
            longer = ((0, 1, "0" * (more - len(partings[0][2])) + partings[0][2]),) + partings[1:]
            self.assertIs(states_holds(spec.trade, (0, 1), (word, rows, longer)), told)
        self.assertEqual((rows[0], partings[0][:2]), ("", (0, 1)))


def hard_specs(beat=None):
    """Trades in which the house (0, 1) has more states than there are houses of two."""
    dice = random.Random(447)
    found = []
    while len(found) < 5:
        kinds = {kind: [dice.choice([None, 0, 1, 2]) for _ in range(3)] for kind in "abc"}
        spec = Spec(3, kinds, {"0": beat or [dice.randrange(3) for _ in range(3)]})
        if many_states(spec.trade, (0, 1)) is not None:
            found.append(spec)
    return found


if __name__ == "__main__":
    unittest.main()
