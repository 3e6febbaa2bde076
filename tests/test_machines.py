import itertools
import random
import unittest

from helpers import (ANY, CROSSED, JOINT, NO_SEQUENCES, RING, ROOMS, SILENT, STILL, TIDE, Case, Spec, bends, choices,
                     ending_spec, is_shown_by, no_letters, random_house, random_row, rueless_specs, same, specs, without)
from rueless.errors import BadHouse, BadMachine, BadRow, NoLetter, NotRueless, Refused, TooGreat
from rueless.houses import all_houses, is_house
from rueless.machines import (Machine, bag_machine, front_machine, machine_holds, machine_paper, most_times,
                              size_machine)
from rueless.strikes import is_closed
from rueless.trades import Trade
from rueless.twos import Table
from rueless.verdict import first_clash, is_rueless, sure_choices

TOLD = [JOINT, RING, ROOMS, SILENT, STILL, TIDE]
# In the house (0, 1) no stand is a sure choice for c, in (0, 1, 2) stand 2 is.
KEPT = Spec(4, {"a": [3, None, None, None], "b": [None, 3, None, None], "c": [3, 3, 2, None]})


def random_machine(dice, most=5, letters=("", "a", "ab", "ab0", "bd1"), empty=0.35):
    many = dice.randrange(1, most + 1)
    signs = dice.choice(letters)
    ways = [[None if dice.random() < empty else dice.randrange(many) for _ in signs] for _ in range(many)]
    return Machine(signs, ways, first=dice.randrange(many))


def slow_walk(machine, state, row):
    """(letters read, state then)."""
    for at, letter in enumerate(row):
        behind = machine.ways[state][machine.letters.index(letter)]
        if behind is None:
            return at, state
        state = behind
    return len(row), state


class MachineTest(Case):
    def test_attributes_and_equality(self):
        for letters, ways, first in (("", [[]], 0), ("a", [[0]], 0), ("ad1", [(0, None, 1), [1, 1, None]], 1),
                                     ("abcd01", [[None] * 6] * 2000, 1999)):
            machine = Machine(letters=letters, ways=ways, first=first)
            self.assertSame((machine.letters, machine.ways, machine.first),
                            (letters, tuple(tuple(one) for one in ways), first))
            self.assertEqual(len(machine), len(ways))
            self.assertTrue(machine == Machine(letters, tuple(ways), first=first))
            self.assertFalse(machine != Machine(letters, [list(one) for one in ways], first=first))
        machine = Machine("ab", [[0, 1], [None, 1]])
        self.assertEqual(machine.first, 0)
        for other in (Machine("ac", [[0, 1], [None, 1]]), Machine("ab", [[0, 1], [None, None]]),
                      Machine("ab", [[0, 1], [None, 1]], first=1), Machine("ab", [[0, 1], [None, 1], [0, 0]])):
            self.assertFalse(machine == other)
        for value in ANY:
            self.assertFalse(machine == value)
        self.assertRaises(TypeError, iter, machine)
        ways = [[0, 1], [None, 1]]
        machine = Machine("ab", ways)
        ways[1][0] = 1
        ways.append([0, 0])
        self.assertEqual(machine.ways, ((0, 1), (None, 1)))
        self.assertRaises(TypeError, Machine, "a", [[0]], 0)

    def test_wrong_machines(self):
        right = ["", "a", "b", "01", "abcd01", "bd0"]
        for value in without(ANY + ["ba", "aa", "0a", "10", "e", "a b", "abcd012"], lambda one: one in right or one == "ab"
                             or one == "a0" or one == "0"):
            self.fails(BadMachine("letters"), Machine, value, None, first=None)
        for value in NO_SEQUENCES + [[], (), [[0]] * 2001]:
            self.fails(BadMachine("ways"), Machine, "a", value, first=None)
        no_steps = without(ANY, lambda value: isinstance(value, (list, tuple)) and len(value) == 1
                           and (value[0] is None or type(value[0]) is int and value[0] == 0))
        for value in no_steps + [[3], [-1], [0, 0], ["a"]]:
            for at in range(3):
                ways = [[0], [1], [None]]
                ways[at] = value
                self.fails(BadMachine(at), Machine, "a", ways, first=None)
                self.fails(BadMachine(at), Machine, "a", tuple(ways[:at + 1] + [value] * (2 - at)))
        self.fails(BadMachine(0), Machine, "", [[0]])
        for value in without(ANY, lambda value: type(value) is int and value in (0, 1)) + [2]:
            self.fails(BadMachine("first"), Machine, "a", [[0], [1]], first=value)

    def test_steps_and_walks(self):
        dice = random.Random(320)
        for _ in range(150):
            machine = random_machine(dice)
            for state in range(len(machine)):
                started = self.agrees(machine.started, state=state)
                self.assertTrue(started == Machine(machine.letters, machine.ways, first=state))
                for letter in machine.letters:
                    self.assertSame(self.agrees(machine.step, state=state, letter=letter),
                                    machine.ways[state][machine.letters.index(letter)])
            for _ in range(10):
                row = "".join(dice.choice(machine.letters) for _ in range(dice.randrange(8))) if machine.letters else ""
                many, state = slow_walk(machine, machine.first, row)
                self.assertSame(self.agrees(machine.beginning, row=row), many)
                self.assertSame(self.agrees(machine.after, row=row), state if many == len(row) else None)
                self.assertIs(self.agrees(machine.reads, row=row), many == len(row))

    def test_pieces(self):
        dice = random.Random(321)
        found = set()
        for _ in range(250):
            machine = random_machine(dice, empty=0.15)
            pieces = []
            for _ in range(dice.randrange(5)):
                row = "".join(dice.choice(machine.letters) for _ in range(dice.randrange(4))) if machine.letters else ""
                pieces.append(dice.choice([list, tuple])((row, dice.choice([0, 1, 2, 3, 7, 12]))))
            told = slow_walk(machine, machine.first, "".join(row * times for row, times in pieces))
            state = told[1] if told[0] == sum(len(row) * times for row, times in pieces) else None
            found.add(state is None)
            self.assertSame(self.agrees(machine.after_pieces, pieces=pieces), state)
        self.assertEqual(found, {True, False})
        ring = Machine("ab", [[1, None], [2, 1], [0, None], [3, 3]])
        for most in (10 ** 18, 10 ** 18 - 1, 10 ** 18 - 2):
            self.assertSame(ring.after_pieces([("a", most)]), most % 3)
            self.assertSame(ring.after_pieces([("", most), ["aa", most], ("aaa", most)]), 2 * most % 3)
            self.assertSame(ring.after_pieces([("a", 1), ("b", most), ("a", most)]), (1 + most) % 3)
            self.assertSame(ring.after_pieces((("b", most),)), None)
        # A beginning that comes once, then a ring of three.
        tailed = Machine("a", [[1], [2], [3], [4], [2]])
        for times in list(range(12)) + [10 ** 18 - one for one in range(4)]:
            self.assertSame(tailed.after_pieces([("a", times)]), times if times < 2 else 2 + (times - 2) % 3)
            self.assertSame(tailed.after_pieces([("aa", times)]), 2 * times if times < 1 else 2 + (2 * times - 2) % 3)
        self.assertSame((ring.after_pieces([]), ring.after_pieces([("b", 0)]), ring.after_pieces([("aab", 1)])),
                        (0, 0, None))
        self.assertSame(ring.started(3).after_pieces([("ab" * 100, 10 ** 18)]), 3)

    def test_most_times(self):
        dice = random.Random(322)
        found = set()
        for _ in range(250):
            machine = random_machine(dice)
            row = "".join(dice.choice(machine.letters) for _ in range(dice.randrange(4))) if machine.letters else ""
            many = slow_walk(machine, machine.first, row * 20)[0]
            told = None if many == 20 * len(row) else many // len(row)
            found.add(told)
            self.assertSame(self.agrees(most_times, machine=machine, row=row), told)
        self.assertTrue({None, 0, 1, 2} <= found)
        line = Machine("a", [[one + 1] for one in range(1999)] + [[None]])
        self.assertSame((most_times(line, "a"), most_times(line, "a" * 200), most_times(line, "")), (1999, 9, None))

    def test_wrong_values_in_order(self):
        machine = Machine("a0", [[0, 1], [None, 1]])
        for value in without(ANY, lambda value: type(value) is int and value in (0, 1)) + [2]:
            self.fails(Refused(value), machine.step, value, None)
            self.fails(Refused(value), machine.started, value)
        for value in no_letters("a0"):
            self.fails(NoLetter(value), machine.step, 1, value)
        for call in (machine.after, machine.reads, machine.beginning, lambda row: most_times(machine, row)):
            for value in without(ANY, lambda value: isinstance(value, str)):
                self.fails(BadRow(-1), call, value)
            self.fails(BadRow(2), call, "a0b" + "x" * 400)
            self.fails(BadRow(200), call, "a" * 201)
            self.fails(BadRow(200), call, "a" * 200 + "b")
            self.fails(BadRow(0), call, "10")
        self.assertSame((machine.after("a" * 200), machine.beginning("0a" * 100)), (0, 1))
        for value in NO_SEQUENCES:
            self.fails(BadRow(-1), machine.after_pieces, value)
        for value in ANY + [("a", -1), ("a", True), ("a", 10 ** 18 + 1), ("b", 1), (5, 1), ("a", 1, 1), ("a", "1"),
                            ("a" * 201, 1), ("a",), ("a", None), ("a1", 0)]:
            self.fails(BadRow(0), machine.after_pieces, [value, ("x", 1)])
            self.fails(BadRow(2), machine.after_pieces, [("0a", 1), ["a" * 200, 10 ** 18], value])
        none = Machine("", [[]])
        self.assertSame((none.after(""), none.reads(""), none.beginning(""), most_times(none, "")), (0, True, 0, None))
        self.fails(BadRow(0), none.after, "a")
        self.fails(NoLetter("a"), none.step, 0, "a")


def slow_bag_machine(spec, table, house):
    """(houses, ways, stands by letter), or None where a choice is missing."""
    houses, ways, stands = [house], [], []
    while len(ways) < len(houses):
        now = houses[len(ways)]
        ways.append([])
        stands.append([])
        for letter in spec.letters:
            told = spec.choices(now, letter)
            if letter in spec.kinds and told:
                sure = sure_choices(table, now, letter)
                if not sure:
                    return None
                told = [(stand, behind) for stand, behind in told if stand == sure[0]]
            if told and told[0][1] not in houses:
                houses.append(told[0][1])
            ways[-1].append(houses.index(told[0][1]) if told else None)
            stands[-1].append(told[0][0] if told else None)
    return tuple(houses), tuple(tuple(one) for one in ways), stands


class MadeMachineTest(Case):
    def test_bag_machines(self):
        dice = random.Random(323)
        found = set()
        for spec in specs(324, 50) + rueless_specs(325, 20) + TOLD + [CROSSED, KEPT]:
            table = Table(spec.trade)
            for _ in range(3):
                house = random_house(dice, spec, 4)
                told = slow_bag_machine(spec, table, house)
                found.add((told is None, is_rueless(table)))
                if told is None:
                    self.fails(NotRueless(*first_clash(table)), bag_machine, table, list(house))
                    self.fails(NotRueless(*first_clash(table)), machine_paper, table, list(house))
                    continue
                machine, houses = bag_machine(table, list(house)[::-1])
                self.assertSame((machine.letters, machine.ways, machine.first), (spec.letters, told[1], 0))
                self.assertSame(houses, told[0])
                self.assertTrue(bag_machine(table=table, house=house)[0] == machine)
                for _ in range(10):
                    row = random_row(dice, spec, 7)
                    self.assertIs(machine.reads(row), spec.serves(house, row))
        self.assertEqual(found, {(True, False), (False, True), (False, False)})

    def test_rueful_trades_with_sure_choices(self):
        table = Table(KEPT.trade)
        self.fails(NotRueless("c", 0, 1), bag_machine, table, (0, 1))
        machine, houses = bag_machine(table, (2, 2))
        self.assertSame((machine.ways, houses), (((None, None, 0),), ((2, 2),)))
        self.assertSame(bag_machine(table, ())[1], ((),))
        self.assertSame(bag_machine(table, [0])[0].ways, ((1, None, 1), (None,) * 3))

    def test_size_machines(self):
        dice = random.Random(326)
        for spec in rueless_specs(327, 25) + TOLD:
            table = Table(spec.trade)
            for places in range(4):
                machine, houses = size_machine(table=table, places=places)
                self.assertSame(houses, all_houses(spec.trade, places))
                self.assertSame((machine.letters, machine.first, len(machine)), (spec.letters, 0, len(houses)))
                for house, ways in zip(houses, machine.ways):
                    for letter, way in zip(spec.letters, ways):
                        told = spec.choices(house, letter)
                        if letter in spec.kinds and told:
                            sure = sure_choices(table, house, letter)[0]
                            told = [(stand, behind) for stand, behind in told if stand == sure]
                        self.assertSame(way, houses.index(told[0][1]) if told else None)
                at = dice.randrange(len(houses))
                for _ in range(5):
                    row = random_row(dice, spec, 6)
                    self.assertIs(machine.started(at).reads(row), spec.serves(houses[at], row))

    def test_size_machines_in_order(self):
        for value in without(ANY, lambda value: type(value) is int and 0 <= value <= 6) + [7]:
            self.fails(Refused(value), size_machine, Table(ROOMS.trade), value)
            self.fails(NotRueless("c", 0, 1), size_machine, Table(CROSSED.trade), value)
        self.assertEqual(len(size_machine(Table(ROOMS.trade), 6)[0]), 28)
        greater = Table(ending_spec(random.Random(8), 7, "a").trade)
        self.assertEqual(len(size_machine(greater, 4)[0]), 210)
        self.fails(Refused(5), size_machine, greater, 5)

    def test_front_machines(self):
        dice = random.Random(328)
        for spec in specs(329, 50, stands=(1, 2, 3)) + TOLD + [CROSSED]:
            house = random_house(dice, spec, 3)
            found = [((house,), "")]
            for front, row in found:
                for letter in spec.letters:
                    behind = spec.front(house, row + letter)
                    if behind and behind not in [one for one, _ in found]:
                        found.append((behind, row + letter))
            machine, told = front_machine(trade=spec.trade, house=list(house)[::-1])
            self.assertSame(told, tuple(front for front, _ in found))
            self.assertSame((machine.letters, machine.first), (spec.letters, 0))
            for (front, row), ways in zip(found, machine.ways):
                for letter, way in zip(spec.letters, ways):
                    behind = spec.front(house, row + letter)
                    self.assertSame(way, told.index(behind) if behind else None)
            for most in (len(told), len(told) + 1):
                self.assertTrue(front_machine(spec.trade, house, most=most)[0] == machine)
            if len(told) > 1:
                self.fails(TooGreat(len(told) - 1), front_machine, spec.trade, house, most=len(told) - 1)
                self.fails(TooGreat(1), front_machine, spec.trade, house, most=1)

    def test_wrong_houses(self):
        for value in NO_SEQUENCES:
            self.fails(BadHouse(-1), bag_machine, Table(CROSSED.trade), value)
            self.fails(BadHouse(-1), machine_paper, Table(CROSSED.trade), value)
            self.fails(BadHouse(-1), front_machine, CROSSED.trade, value)
            self.fails(BadHouse(-1), machine_holds, CROSSED.trade, value, None)
        self.fails(BadHouse(1), bag_machine, Table(CROSSED.trade), [0, 3])
        self.fails(BadHouse(6), machine_holds, CROSSED.trade, [0] * 7, None)
        self.fails(BadHouse(0), front_machine, CROSSED.trade, [True], most=1)


def led(spec, stands, chosen, kind, is_step):
    """Whether chains lead all stands to the chosen one."""
    met = [chosen]
    for p in met:
        met += [q for q in stands if q not in met and is_step(q, p)]
    return len(met) == len(stands)


def slow_machine_holds(spec, house, paper):
    word, houses, steps, relation = paper
    if word != "machine" or houses[0] != house or len(steps) != len(houses) or not is_closed(spec.trade, relation):
        return False
    if type(houses) is not tuple or type(steps) is not tuple or not all(is_house(spec.trade, one) for one in houses):
        return False
    for one, ways in zip(houses, steps):
        if len(ways) != len(spec.letters) or type(ways) is not tuple:
            return False
        for letter, way in zip(spec.letters, ways):
            told = dict(spec.choices(one, letter))
            if not told:
                if way is not None:
                    return False
                continue
            stand, number = way
            if type(way) is not tuple or number < 0 or told[stand] != houses[number]:
                return False

            def is_step(q, p):
                first, second = choices(spec, letter, p, q)
                return first == second or (second, first) in relation

            if letter in spec.kinds and not led(spec, list(told), stand, letter, is_step):
                return False
    return True


class MachinePaperTest(Case):
    def papers(self, seed, many):
        dice = random.Random(seed)
        for spec in specs(seed + 1, many) + rueless_specs(seed + 2, many) + TOLD + [KEPT]:
            table = Table(spec.trade)
            house = random_house(dice, spec, 3)
            told = slow_bag_machine(spec, table, house)
            if told is not None:
                yield spec, table, house, told

    def test_papers(self):
        for spec, table, house, (houses, ways, stands) in self.papers(330, 25):
            paper = self.agrees(machine_paper, table=table, house=house)
            steps = []
            pairs = []
            for one, numbers, row in zip(houses, ways, stands):
                steps.append(tuple(None if number is None else (stand, number) for stand, number in zip(row, numbers)))
                for kind, stand in zip(spec.kinds, row):
                    takers = [other for other, _ in spec.choices(one, kind)]
                    met = [stand] if takers else []
                    for p in met:
                        for q in takers:
                            if q not in met and table.side(kind, p, q) in ("first", "both"):
                                met.append(q)
                                pairs.append(choices(spec, kind, p, q)[::-1])
            self.assertSame(paper[:3], ("machine", houses, tuple(steps)))
            numbers = [(table.houses.index(x), table.houses.index(y)) for x, y in pairs]
            told = tuple((table.houses[x], table.houses[y]) for x, y in table.relation.needed(numbers))
            self.assertSame(paper[3], told)
            self.assertIs(machine_holds(trade=spec.trade, house=list(house)[::-1], value=paper), True)
            self.assertTrue(is_shown_by(slow_machine_holds, spec, house, paper))

    def test_bent_papers(self):
        dice = random.Random(333)
        held = []
        for spec, table, house, _ in self.papers(334, 25):
            for bent in bends(dice, machine_paper(table, house), 40):
                told = is_shown_by(slow_machine_holds, spec, house, bent)
                held.append(told)
                self.assertIs(machine_holds(spec.trade, house, bent), told, bent)
        self.assertGreater(held.count(True), 100)
        self.assertGreater(held.count(False), 500)

    def test_other_right_papers(self):
        dice = random.Random(337)
        found = set()
        for spec, table, house, (houses, ways, _) in self.papers(338, 60):
            word, _, steps, relation = machine_paper(table, house)
            more = ((), house, house) + tuple(all_houses(spec.trade, 1))
            every = [machine_paper(table, one) for one in more if slow_bag_machine(spec, table, one) is not None]
            told, rows, pairs = list(houses), list(steps), set(relation)
            for _, others, ways_of, needed in every:
                many = len(told)
                told += others
                rows += [tuple(way and (way[0], way[1] + many) for way in one) for one in ways_of]
                pairs |= set(needed)
            pairs = list(pairs)
            dice.shuffle(pairs)
            paper = (word, tuple(told), tuple(rows), tuple(pairs))
            self.assertIs(machine_holds(spec.trade, house, paper), True)
            self.assertIs(machine_holds(spec.trade, house[1:], paper), house == ())
            # Any other stand will do to which all takers are led.
            relation = tuple((table.houses[x], table.houses[y]) for x, y in table.relation.pairs() if x != y)
            for _ in range(20):
                at, letter = dice.randrange(len(houses)), dice.choice(spec.letters or "x")
                behind = [(stand, one) for stand, one in spec.choices(houses[at], letter) if one in houses] \
                    if spec.letters else []
                if behind:
                    stand, one = dice.choice(behind)
                    row = list(steps[at])
                    row[spec.letters.index(letter)] = (stand, houses.index(one))
                    paper = (word, houses, steps[:at] + (tuple(row),) + steps[at + 1:], relation)
                    told = is_shown_by(slow_machine_holds, spec, house, paper)
                    found.add(told)
                    self.assertIs(machine_holds(spec.trade, house, paper), told)
        self.assertEqual(found, {True, False})

    def test_any_values(self):
        paper = machine_paper(Table(ROOMS.trade), (0, 1))
        for value in ANY + [list(paper), paper[:-1], paper + ((),), ("states",) + paper[1:]]:
            self.assertIs(machine_holds(ROOMS.trade, (1, 0), value), False)
        for at in range(4):
            for value in ANY:
                bent = paper[:at] + (value,) + paper[at + 1:]
                self.assertIs(machine_holds(ROOMS.trade, (0, 1), bent), same(bent, paper))
        self.assertIs(machine_holds(ROOMS.trade, (), ("machine", ((),), ((None, None),), ())), True)
        self.assertIs(machine_holds(ROOMS.trade, (), ("machine", (), (), ())), False)
        still = Trade(2, {})
        self.assertIs(machine_holds(still, (0, 1), ("machine", ((0, 1), (1,)), ((), ()), ())), True)
        self.assertIs(machine_holds(still, (0, 1), ("machine", ((1,), (0, 1)), ((), ()), ())), False)
        for house in itertools.combinations_with_replacement(range(3), 2):
            self.assertIs(machine_holds(TIDE.trade, house, machine_paper(Table(TIDE.trade), house)), True)


if __name__ == "__main__":
    unittest.main()
