import itertools
import random
import unittest

from helpers import (ANY, CROSSED, NO_SEQUENCES, NO_STRINGS, RING, ROOMS, SILENT, STILL, TIDE, Case, Spec, bends, choices,
                     ending_spec, fault_of, no_letters, no_stands, random_house, random_row, specs, without)
from rueless.errors import BadHouse, BadRow, CannotTake, NoLetter, NoStand, NotRueless, PaperFault, Refused
from rueless.homes import Homes, check_homes, rueless_ends
from rueless.houses import all_houses, is_house, reached_houses
from rueless.twos import Table

SINK = Spec(4, {"a": [None, None, 2, None], "c": [2, 3, None, None]})
EBB = Spec(3, {"a": [2, None, None], "b": [None, 2, None], "c": [2, 2, None]}, {"0": [1, 0, 2]})
TOLD = [CROSSED, RING, ROOMS, SILENT, STILL, TIDE, SINK, EBB]


def is_home(ends, house):
    return set(house) <= set(ends)


def alive_houses(spec, ends, places):
    """The houses that can come home, from the homes back."""
    houses = list(itertools.combinations_with_replacement(range(spec.stands), places))
    alive = {house for house in houses if is_home(ends, house)}
    while True:
        more = {house for house in houses if any(one in alive for letter in spec.letters
                                                 for one in spec.moves(house, letter))} - alive
        if not more:
            return alive
        alive |= more


def followed(spec, ends):
    """The pairs of houses of two of which the second one follows the first one home, by the words."""
    houses = list(itertools.combinations_with_replacement(range(spec.stands), 2))
    alive = alive_houses(spec, ends, 2)
    pairs = {(x, y) for x in houses for y in houses if is_home(ends, y) or not is_home(ends, x)}
    while True:
        kept = {(x, y) for x, y in pairs if all(any((x2, y2) in pairs for y2 in spec.moves(y, letter))
                                                for letter in spec.letters for x2 in spec.moves(x, letter) if x2 in alive)}
        if kept == pairs:
            return pairs
        pairs = kept


def slow_side(spec, pairs, kind, p, q):
    first, second = choices(spec, kind, p, q)
    words = {(True, True): "both", (True, False): "first", (False, True): "second", (False, False): "none"}
    return words[((second, first) in pairs, (first, second) in pairs)]


def takers(spec, kind):
    return [stand for stand in range(spec.stands) if spec.ways[kind][stand] is not None]


def two_takers(spec):
    return [(kind,) + two for kind in spec.kinds for two in itertools.combinations(takers(spec, kind), 2)]


def slow_clashes(spec, pairs):
    return tuple(one for one in two_takers(spec) if slow_side(spec, pairs, *one) == "none")


def home_parting(spec, ends, house, other):
    """Whether some row has a serving that leaves the one home and none that leaves the other one home."""
    queue = [((house,), (other,))]
    for front, rest in queue:
        if any(is_home(ends, one) for one in front) and not any(is_home(ends, one) for one in rest):
            return True
        for letter in spec.letters:
            pair = tuple(tuple(sorted({behind for one in houses for behind in spec.moves(one, letter)}))
                         for houses in (front, rest))
            if pair[0] and pair not in queue:
                queue.append(pair)
    return False


def steady_houses(spec, ends, bags):
    """The bags with a steward who comes home by each row by which one can: by rows alone."""
    steady = set(bags)
    while True:
        kept = {house for house in steady if all(
            not any(one in alive_houses(spec, ends, len(house)) for one in spec.moves(house, letter)) or any(
                one in steady and not any(home_parting(spec, ends, other, one) for other in spec.moves(house, letter))
                for one in spec.moves(house, letter)) for letter in spec.letters)}
        if kept == steady:
            return steady
        steady = kept


def random_ends(dice, spec):
    return [dice.randrange(spec.stands) for _ in range(dice.randrange(2 * spec.stands + 1))]


def cases(seed, many, stands=(1, 2, 3, 4)):
    dice = random.Random(seed)
    for spec in specs(seed + 1, many, stands=stands, kinds=("", "a", "ab", "abc"), empty=0.5) + TOLD:
        yield spec, random_ends(dice, spec)
    yield SINK, [0, 1, 3]
    for spec in TOLD:
        yield spec, list(range(spec.stands))
        yield spec, []


class HomesTest(Case):
    def test_attributes(self):
        for spec, ends in cases(470, 20):
            homes = Homes(trade=spec.trade, ends=ends)
            self.assertIs(homes.trade, spec.trade)
            self.assertSame(homes.ends, tuple(sorted(set(ends))))
            self.assertSame(Homes(spec.trade, tuple(ends) * 2).ends, homes.ends)
        self.assertRaises(TypeError, iter, homes)
        self.assertRaises(TypeError, len, homes)

    def test_home_rows_and_houses(self):
        dice = random.Random(471)
        found = set()
        for spec, ends in cases(472, 60):
            homes = Homes(spec.trade, ends)
            for places in range(5):
                told = tuple(sorted(alive_houses(spec, ends, places)))
                self.assertSame(self.agrees(homes.home_houses, places=places), told)
            for _ in range(4):
                house = random_house(dice, spec, 4)
                row, seen = None, set()
                level = [("", (house,))]
                while level and row is None:
                    following = []
                    for one, front in level:
                        if any(is_home(ends, behind) for behind in front):
                            row = one
                            break
                        for letter in spec.letters:
                            behind = spec.front(house, one + letter)
                            if behind and behind not in seen:
                                seen.add(behind)
                                following.append((one + letter, behind))
                    level = following
                found.add(row)
                self.assertSame(self.agrees(homes.home_row, house=list(house)[::-1]), row)
        self.assertTrue({None, "", "a"} <= found and max(len(row or "") for row in found) > 3)

    def test_rows_that_end_home(self):
        dice = random.Random(473)
        found = set()
        for spec, ends in cases(474, 60):
            homes = Homes(spec.trade, ends)
            for _ in range(8):
                house, row = random_house(dice, spec, 3), random_row(dice, spec, 5)
                told = any(is_home(ends, one) for one in spec.front(house, row))
                found.add((told, spec.serves(house, row)))
                self.assertIs(self.agrees(homes.ends_home, house=list(house)[::-1], row=row), told)
        self.assertEqual(found, {(True, True), (False, True), (False, False)})

    def test_a_long_way_home(self):
        # The only row from stand 0 to stand 9 has nine letters; two places need eighteen, beats move both at once.
        line = Spec(10, {"a": [1, 2, 3, 4, 5, 6, 7, 8, 9, None]})
        homes = Homes(line.trade, [9])
        self.assertSame((homes.home_row((0,)), homes.home_row((0, 0))), ("a" * 9, "a" * 18))
        self.assertSame(homes.home_row((0, 0, 0, 0)), "a" * 36)
        self.assertSame((homes.home_row(()), homes.home_row([9, 9])), ("", ""))

    def test_what_follows_home(self):
        sides = set()
        for spec, ends in cases(475, 60):
            homes = Homes(spec.trade, ends)
            pairs = followed(spec, ends)
            for x, y in itertools.product(itertools.combinations_with_replacement(range(spec.stands), 2), repeat=2):
                self.assertIs(homes.is_followed(list(x)[::-1], y=y), (x, y) in pairs)
            for kind in spec.kinds:
                for p, q in itertools.product(takers(spec, kind), repeat=2):
                    told = slow_side(spec, pairs, kind, p, q)
                    sides.add(told)
                    self.assertSame(self.agrees(homes.side, kind=kind, p=p, q=q), told)
            self.assertSame(self.agrees(homes.clashes), slow_clashes(spec, pairs))
            self.assertIs(self.agrees(homes.is_rueless), slow_clashes(spec, pairs) == ())
        self.assertEqual(len(sides), 4)

    def test_rueless_homes_have_stewards(self):
        found = set()
        for spec, ends in cases(476, 25, stands=(2, 3)):
            if spec.stands > 3:
                continue
            homes = Homes(spec.trade, ends)
            told = all(house in steady_houses(spec, ends, reached_houses(spec.trade, house))
                       for places in range(6 - spec.stands) for house in all_houses(spec.trade, places))
            found.add(told)
            self.assertIs(homes.is_rueless(), told)
        self.assertEqual(found, {True, False})

    def test_choices_and_walks(self):
        dice = random.Random(477)
        found = set()
        for spec, ends in cases(478, 80):
            homes = Homes(spec.trade, ends)
            pairs = followed(spec, ends)
            clashes = slow_clashes(spec, pairs)
            if clashes:
                found.add(None)
                for call in (homes.choice, homes.walk):
                    self.fails(NotRueless(*clashes[0]), call, None, None)
                continue
            for _ in range(8):
                house, row = random_house(dice, spec, 3), random_row(dice, spec, 7)
                now, many = house, 0
                for letter in row:
                    told = dict(spec.choices(now, letter))
                    kept = None
                    for stand in told:
                        if kept is None or slow_side(spec, pairs, letter, kept, stand) == "second":
                            kept = stand
                    if letter in spec.kinds:
                        self.assertSame(self.agrees(homes.choice, house=list(now)[::-1], kind=letter), kept)
                    if not told:
                        break
                    now = told[kept if letter in spec.kinds else None]
                    many += 1
                walk = self.agrees(homes.walk, house=list(house)[::-1], row=row)
                self.assertSame(walk, (many, now, is_home(ends, now)))
                told = any(is_home(ends, one) for one in spec.front(house, row))
                found.add((told, walk[2]))
                if told:
                    self.assertSame(walk[::2], (len(row), True))
        self.assertTrue({None, (True, True), (False, False)} <= found)

    def test_rueless_ends(self):
        for spec, _ in cases(479, 25, stands=(1, 2, 3)):
            stands = range(spec.stands)
            every = [ends for many in range(spec.stands + 1) for ends in itertools.combinations(stands, many)]
            told = tuple(sorted(ends for ends in every if not slow_clashes(spec, followed(spec, ends))))
            self.assertSame(self.agrees(rueless_ends, trade=spec.trade), told)
        greater = ending_spec(random.Random(2), 7, "a")
        self.fails(Refused(7), rueless_ends, greater.trade)
        self.assertSame(len(rueless_ends(Spec(6, {}).trade)), 64)

    def test_wrong_values_in_order(self):
        homes, rueful = Homes(EBB.trade, [2]), Homes(CROSSED.trade, (0, 1, 2))
        self.assertSame((rueful.clashes(), homes.clashes()), ((("c", 0, 1),), (("c", 0, 1),)))
        homes = Homes(SINK.trade, (0, 1, 3))
        for value in NO_SEQUENCES:
            self.fails(NoStand(value), Homes, SINK.trade, value)
            self.fails(NoStand(value), check_homes, SINK.trade, value, None)
            for call in (homes.home_row, lambda house: homes.ends_home(house, None), lambda house: homes.walk(house, None),
                         lambda house: homes.choice(house, None), lambda house: homes.is_followed(house, None),
                         lambda house: homes.is_followed((0, 0), house)):
                self.fails(BadHouse(-1), call, value)
        for value in no_stands(SINK):
            self.fails(NoStand(value), Homes, SINK.trade, [0, value, None])
            self.fails(NoStand(value), check_homes, SINK.trade, (value,), None)
            self.fails(NoStand(value), homes.side, "a", value, None)
            self.fails(NoStand(value), homes.side, "a", 0, value)
            self.fails(BadHouse(1), homes.is_followed, (0, value), None)
        for value in without(ANY, lambda value: type(value) is int and 0 <= value <= 4) + [5]:
            self.fails(BadHouse(-1), homes.home_houses, value)
        for value in no_letters("ac"):
            self.fails(NoLetter(value), homes.side, value, None, None)
            self.fails(NoLetter(value), homes.choice, [0], value)
        self.fails(NoLetter("0"), Homes(TIDE.trade, ()).choice, [0], "0")
        self.fails(CannotTake("a"), homes.side, "a", 0, 2)
        self.fails(CannotTake("c"), homes.side, "c", 1, 2)
        for value in NO_STRINGS:
            self.fails(BadRow(-1), homes.ends_home, (), value)
            self.fails(BadRow(-1), homes.walk, (), value)
        self.fails(BadRow(1), homes.walk, (0,), "ab" + "c" * 300)
        self.fails(BadRow(200), homes.ends_home, (0,), "c" * 201)
        self.fails(BadHouse(1), homes.is_followed, [0], (0, 0))
        self.fails(BadHouse(2), homes.is_followed, [0, 1], (0, 0, 0))
        self.fails(BadHouse(6), homes.home_row, [0] * 7)


def needed(spec, pairs, alive, wanted):
    """The pairs that stand, by the least answers, with those that are wanted."""
    found, queue = set(), [pair for pair in wanted if pair[0] != pair[1]]
    for x, y in queue:
        if (x, y) not in found:
            found.add((x, y))
            for letter in spec.letters:
                for x2 in spec.moves(x, letter):
                    if x2 in alive:
                        y2 = [one for one in spec.moves(y, letter) if (x2, one) in pairs][0]
                        queue += [(x2, y2)] if x2 != y2 else []
    return found


def slow_paper(spec, ends, homes):
    pairs, alive = followed(spec, ends), alive_houses(spec, ends, 2)
    if slow_clashes(spec, pairs):
        return None
    sides = tuple(one + (slow_side(spec, pairs, *one),) for one in two_takers(spec))
    wanted = []
    for kind, p, q, word in sides:
        first, second = choices(spec, kind, p, q)
        wanted += [(second, first)] if word in ("first", "both") else []
        wanted += [(first, second)] if word in ("second", "both") else []
    dead = tuple(house for house in all_houses(spec.trade, 2) if house not in alive)
    rows = tuple(sorted(pair for pair in needed(spec, pairs, alive, wanted) if pair[0] in alive))
    return ("homes", sides, dead, rows)


def is_two(spec, value):
    return is_house(spec.trade, value) and len(value) == 2


def is_pair(spec, value):
    return type(value) is tuple and len(value) == 2 and all(is_two(spec, one) for one in value) and value[0] != value[1]


def slow_check(spec, ends, paper):
    if type(paper) is tuple and len(paper) == 4 and type(paper[0]) is str and paper[0] == "homes":
        return slow_check_homes(spec, ends, *paper[1:])
    if type(paper) is tuple and len(paper) == 5 and type(paper[0]) is str and paper[0] == "homes rueful":
        return slow_check_rueful(spec, ends, *paper[1:])
    return 0


def slow_check_homes(spec, ends, sides, dead, rows):
    if not all(type(one) is tuple for one in (sides, dead, rows)) or not all(is_two(spec, house) for house in dead):
        return 0
    if any(is_home(ends, house) or any(one not in dead for letter in spec.letters for one in spec.moves(house, letter))
           for house in dead):
        return 0
    if not all(type(side) is tuple and len(side) == 4 for side in sides):
        return 0
    if [side[:3] for side in sides] != two_takers(spec) or any(bool in (type(side[1]), type(side[2])) for side in sides):
        return 0
    for kind, p, q, word in sides:
        if type(word) is not str or word not in ("first", "second", "both"):
            return 0
        first, second = choices(spec, kind, p, q)
        for pair, words in (((second, first), ("first", "both")), ((first, second), ("second", "both"))):
            if word in words and first != second and pair[0] not in dead:
                if not any(is_pair(spec, one) and one == pair for one in rows):
                    return 0
    for number, pair in enumerate(rows, 1):
        if not is_pair(spec, pair) or pair in rows[:number - 1] or pair[0] in dead:
            return number
        if is_home(ends, pair[0]) and not is_home(ends, pair[1]):
            return number
    for number, (x, y) in enumerate(rows, 1):
        for letter in spec.letters:
            for x2 in spec.moves(x, letter):
                if x2 not in dead and not any(x2 == y2 or (x2, y2) in rows for y2 in spec.moves(y, letter)):
                    return number
    return None


def is_free(ends, x, y):
    return is_home(ends, x) and not is_home(ends, y)


def slow_check_rueful(spec, ends, kind, p, q, rows):
    if type(kind) is not str or kind not in list(spec.kinds) or not all(type(one) is int for one in (p, q)):
        return 0
    if p not in takers(spec, kind) or q not in takers(spec, kind) or p >= q or type(rows) is not tuple:
        return 0
    first, second = choices(spec, kind, p, q)
    for pair in ((second, first), (first, second)):
        if not is_free(ends, *pair) and not any(
                type(one) is tuple and is_pair(spec, one[:2]) and one[:2] == pair for one in rows):
            return 0
    for number, one in enumerate(rows, 1):
        if type(one) is not tuple or len(one) != 5 or not is_pair(spec, one[:2]) or not is_house(spec.trade, one[3]):
            return number
        if type(one[2]) is not str or one[2] not in list(spec.letters) or type(one[4]) is not str:
            return number
        if not all(sign in spec.letters for sign in one[4]):
            return number
        if not any(is_home(ends, house) for house in spec.front(one[3], one[4])):
            return number
    for number, (x, y, letter, x2, _) in enumerate(rows, 1):
        ahead = [one[:2] for one in rows[:number - 1]]
        if x2 not in spec.moves(x, letter):
            return number
        if not all((x2, y2) in ahead or is_free(ends, x2, y2) for y2 in spec.moves(y, letter)):
            return number
    return None


class HomePaperTest(Case):
    def test_papers(self):
        words, dead = set(), set()
        for spec, ends in cases(480, 80):
            homes = Homes(spec.trade, ends)
            paper = self.agrees(homes.home_paper)
            words.add(paper[0])
            told = slow_paper(spec, ends, homes)
            if told is not None:
                self.assertSame(paper, told)
                dead.add(len(paper[2]) > 0)
            else:
                self.assertSame(paper[:4], ("homes rueful",) + homes.clashes()[0])
                self.assertTrue(all(row[4] == homes.home_row(row[3]) for row in paper[4]))
                self.assertTrue(all(not is_free(ends, row[0], row[1]) for row in paper[4]))
                self.assertEqual([row[:4] for row in paper[4]], slow_strikes(spec, ends, *paper[1:4]))
            self.assertIsNone(self.agrees(check_homes, trade=spec.trade, ends=ends, paper=paper))
        self.assertEqual((words, dead), ({"homes", "homes rueful"}, {True, False}))

    def test_bent_papers(self):
        dice = random.Random(481)
        faults = {}
        for spec, ends in cases(482, 100):
            paper = Homes(spec.trade, ends).home_paper()
            rows = [paper[:-1] + (bent,) for bent in bends(dice, paper[-1], 25)]
            for bent in list(bends(dice, paper, 25)) + rows:
                told = slow_check(spec, ends, bent)
                faults[told] = faults.get(told, 0) + 1
                self.assertEqual(fault_of(check_homes, spec.trade, ends, bent), told, (ends, bent))
        self.assertTrue(min(faults[None], faults[0], faults[1], faults[2]) > 20, faults)

    def test_other_papers(self):
        dice = random.Random(483)
        faults = {}
        for spec, ends in cases(484, 60):
            homes = Homes(spec.trade, ends)
            paper = homes.home_paper()
            houses = all_houses(spec.trade, 2)
            if paper[0] == "homes rueful":
                self.assertIsNone(check_homes(spec.trade, ends, paper[:4] + (paper[4] * 2,)))
                continue
            pairs, dead = followed(spec, ends), list(paper[2])
            every = [pair for pair in pairs if pair[0] != pair[1] and pair[0] not in dead]
            dice.shuffle(every)
            right = paper[:2] + (tuple(dead[::-1] + dead), tuple(every))
            self.assertIsNone(check_homes(spec.trade, ends, right))
            for _ in range(10):
                told = tuple(dice.choice(houses) for _ in range(dice.randrange(3))) + paper[2][:dice.randrange(9)]
                rows = every + [tuple(dice.choice(houses) for _ in range(2)) for _ in range(dice.randrange(2))]
                dice.shuffle(rows)
                bent = (paper[0], paper[1], dice.choice([told, paper[2], ()]), tuple(rows))
                fault = slow_check(spec, ends, bent)
                faults[fault] = faults.get(fault, 0) + 1
                self.assertEqual(fault_of(check_homes, spec.trade, ends, bent), fault, (ends, bent))
        self.assertGreater(min(faults[None], faults[0], faults[1]), 10)

    def test_strikes_that_need_none(self):
        # The one choice leaves the house home, the other one does not: no row need say so.
        spec = Spec(4, {"a": [2, 3, None, None]}, {"0": [0, 1, 3, 2]})
        for ends in itertools.chain.from_iterable(itertools.combinations(range(4), many) for many in range(5)):
            homes = Homes(spec.trade, ends)
            if homes.clashes():
                first, second = choices(spec, "a", 0, 1)
                paper = homes.home_paper()
                for pair in ((first, second), (second, first)):
                    self.assertEqual(is_free(ends, *pair), pair not in [row[:2] for row in paper[4]])
                    strike = (pair[0], pair[1], "0", spec.moves(pair[0], "0")[0])
                    row = homes.home_row(strike[3])
                    if is_free(ends, *pair) and row is not None:
                        more = paper[4] + (strike + (row,),)
                        told = slow_check(spec, ends, paper[:4] + (more,))
                        self.assertEqual(fault_of(check_homes, spec.trade, ends, paper[:4] + (more,)), told)
                return
        self.fail("no clash")

    def test_any_values(self):
        for spec, ends in ((SINK, (0, 1, 3)), (EBB, (2,))):
            paper = Homes(spec.trade, ends).home_paper()
            for value in ANY + [list(paper), paper[1:], paper + ((),), ("home",) + paper[1:]]:
                self.fails(PaperFault(0), check_homes, spec.trade, ends, value)
                for at in range(len(paper)):
                    bent = paper[:at] + (value,) + paper[at + 1:]
                    self.assertEqual(fault_of(check_homes, spec.trade, ends, bent), slow_check(spec, ends, bent))
        # A row to come home by may be longer than 200 letters.
        spec = Spec(4, {"a": [3, None, None, None], "b": [None, 3, None, None], "c": [3, 3, None, None]}, {"0": [0, 1, 2, 3]})
        paper = Homes(spec.trade, [3]).home_paper()
        self.assertEqual(paper[0], "homes rueful")
        longer = tuple(row[:4] + ("0" * 250 + row[4],) for row in paper[4])
        self.assertIsNone(check_homes(spec.trade, [3], paper[:4] + (longer,)))
        self.assertEqual(Table(spec.trade).side("c", 0, 1), "none")


def slow_strikes(spec, ends, kind, p, q):
    """The strikes of a clash, by ranks: 0 for what is not let, then round by round."""
    houses = list(itertools.combinations_with_replacement(range(spec.stands), 2))
    alive = alive_houses(spec, ends, 2)
    ranks = {(x, y): 0 for x in houses for y in houses if is_free(ends, x, y)}
    told = {}
    rank = 0
    while True:
        rank += 1
        found = {}
        for x, y in itertools.product(houses, repeat=2):
            if (x, y) in ranks:
                continue
            for letter in spec.letters:
                for x2 in spec.moves(x, letter):
                    if x2 in alive and (x, y) not in found:
                        if all((x2, y2) in ranks for y2 in spec.moves(y, letter)):
                            found[(x, y)] = (letter, x2)
        if not found:
            break
        for pair in found:
            ranks[pair] = rank
            told[pair] = found[pair]
    first, second = choices(spec, kind, p, q)
    queue, seen = [(second, first), (first, second)], set()
    for x, y in queue:
        if ranks[(x, y)] and (x, y) not in seen:
            seen.add((x, y))
            queue += [(told[(x, y)][1], y2) for y2 in spec.moves(y, told[(x, y)][0])]
    return [pair + told[pair] for pair in sorted(seen, key=lambda pair: (ranks[pair], pair))]


if __name__ == "__main__":
    unittest.main()
