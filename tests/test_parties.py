import itertools
import random
import unittest

from helpers import (ANY, CROSSED, NO_SEQUENCES, RING, ROOMS, SILENT, STILL, TIDE, Case, Spec, bends, choices, fault_of,
                     no_letters, no_stands, random_house, specs, without)
from rueless.errors import (BadHouse, BadSizes, BadWord, CannotTake, NoLetter, NoStand, NotRueless, PaperFault)
from rueless.houses import is_house
from rueless.parties import Parties, check_parties, word_gap
from rueless.twos import Table

# For c 1 is as good as 0 and as 2, and yet 0 is better than 2.
MINGLED = Spec(3, {"a": [None, 1, 2], "b": [2, 1, 2], "c": [1, 2, 0]})
TOLD = [CROSSED, RING, ROOMS, SILENT, STILL, TIDE]
# Three levels of stands for a; and one that comes round in a ring.
LEVELS = Spec(5, {"a": [4, 4, 4, 4, None], "b": [None, 4, 4, 4, None], "c": [None, None, None, 4, None]})


class WordSpec:
    """The slow ways to serve rows of words."""

    def __init__(self, spec, sizes):
        self.spec = spec
        self.sizes = sizes
        self.words = [kind * many for kind, size in zip(spec.kinds, sizes) for many in range(1, size + 1)]
        self.words += list(spec.beats)

    def ways(self, house, word):
        """(stands, house behind), by stands."""
        if word in self.spec.beats:
            return [((), self.spec.moves(house, word)[0])]
        found = {}
        for places in itertools.combinations(range(len(house)), len(word)):
            behind = [self.spec.ways[word[0]][stand] if at in places else stand for at, stand in enumerate(house)]
            if None not in behind:
                found[tuple(house[at] for at in places)] = tuple(sorted(behind))
        return sorted(found.items())

    def moves(self, house, word):
        return sorted({behind for _, behind in self.ways(house, word)})

    def front(self, house, row):
        front = {tuple(sorted(house))}
        for word in row:
            front = {behind for one in front for behind in self.moves(one, word)}
        return tuple(sorted(front))

    def servings(self, house, row):
        if not row:
            return [()]
        found = []
        for stands, behind in self.ways(house, row[0]):
            found += [(serving if row[0] in self.spec.beats else (stands,) + serving)
                      for serving in self.servings(behind, row[1:])]
        return found

    def followed(self):
        houses = list(itertools.combinations_with_replacement(range(self.spec.stands), 2))
        words = [word for word in self.words if len(word) < 3]
        pairs = set(itertools.product(houses, repeat=2))
        while True:
            kept = {(x, y) for x, y in pairs if all(any((x2, y2) in pairs for y2 in self.moves(y, word))
                                                    for word in words for x2 in self.moves(x, word))}
            if kept == pairs:
                return pairs
            pairs = kept

    def side(self, pairs, kind, p, q):
        first, second = choices(self.spec, kind, p, q)
        words = {(True, True): "both", (True, False): "first", (False, True): "second", (False, False): "none"}
        return words[((second, first) in pairs, (first, second) in pairs)]

    def two_takers(self):
        return [(kind,) + two for kind in self.spec.kinds for two in itertools.combinations(takers(self.spec, kind), 2)]

    def clashes(self, pairs):
        return tuple(one for one in self.two_takers() if self.side(pairs, *one) == "none")

    def levels(self, pairs, house, kind):
        """By chains of steps, each of which leads to what is no worse."""
        stands = sorted({stand for stand in house if self.spec.ways[kind][stand] is not None})
        led = {stand: {stand} for stand in stands}
        for _ in stands:
            for x in stands:
                led[x] |= {z for y in led[x] for z in stands if self.side(pairs, kind, z, y) in ("first", "both")}
        groups = []
        for stand in stands:
            group = tuple(one for one in stands if one in led[stand] and stand in led[one])
            groups += [group] if group not in groups else []
        # An earlier level is one to which steps lead from the others.
        return tuple(sorted(groups, key=lambda group: len(led[group[0]])))

    def choice(self, pairs, house, word):
        if word in self.spec.beats:
            return ()
        places = [stand for level in self.levels(pairs, house, word[0]) for stand in level for _ in range(house.count(stand))]
        return tuple(sorted(places[:len(word)])) if len(places) >= len(word) else None


def takers(spec, kind):
    return [stand for stand in range(spec.stands) if spec.ways[kind][stand] is not None]


def random_words(dice, words, most):
    return [dice.choice(words.words) for _ in range(dice.randrange(most + 1))] if words.words else []


def cases(seed, many, stands=(1, 2, 3), most=3):
    dice = random.Random(seed)
    for spec in specs(seed + 1, many, stands=stands, kinds=("", "a", "ab", "abc")) + TOLD + [LEVELS]:
        yield spec, [dice.randrange(1, most + 1) for _ in spec.kinds]


class PartiesTest(Case):
    def test_attributes(self):
        for spec, sizes in cases(490, 30, most=6):
            words = WordSpec(spec, sizes)
            for told in (sizes, tuple(sizes), dict(zip(spec.kinds, sizes)), dict(reversed(list(zip(spec.kinds, sizes))))):
                parties = Parties(trade=spec.trade, sizes=told)
                self.assertIs(parties.trade, spec.trade)
                self.assertSame((parties.sizes, parties.words), (tuple(sizes), tuple(words.words)))
            for told in (None, {}):
                self.assertSame(Parties(spec.trade, told).sizes, (1,) * len(spec.kinds))
            self.assertSame(Parties(spec.trade).words, tuple(spec.letters))
        two = Spec(2, {"a": [0, 1], "b": [0, 1], "d": [1, 0]}, {"1": [0, 1]})
        self.assertSame(Parties(two.trade, {"d": 2}).sizes, (1, 1, 2))
        self.assertSame(Parties(two.trade, {"d": 2}).words, ("a", "b", "d", "dd", "1"))
        sizes = {"a": 3}
        parties = Parties(two.trade, sizes)
        sizes["a"] = 1
        self.assertSame(parties.sizes, (3, 1, 1))
        self.assertRaises(TypeError, iter, parties)
        self.assertRaises(TypeError, len, parties)

    def test_wrong_sizes(self):
        trade = LEVELS.trade
        no_sizes = without(ANY, lambda value: type(value) is int and 1 <= value <= 6) + [0, 7, -1]
        for call in (Parties, word_gap, lambda *told: check_parties(*told, None)):
            for value in no_sizes:
                self.fails(BadSizes("b"), call, trade, {"a": 1, "b": value, "x": 1})
                self.fails(BadSizes("c"), call, trade, {"c": value, "a": value})
                self.fails(BadSizes("b"), call, trade, [1, value, value])
                self.fails(BadSizes("a"), call, trade, (value, 1, value))
                self.fails(BadSizes(-1), call, trade, [value] * 4)
                self.fails(BadSizes(-1), call, trade, (value,))
            for key in without(ANY, lambda value: isinstance(value, list) or value in ("a", "b", "c") or is_odd(value)):
                self.fails(BadSizes(key), call, trade, {"a": 1, key: 1, "b": 0})
            for value in without(ANY, lambda value: value is None or isinstance(value, (list, tuple))) + [[], (), [1, 1]]:
                self.fails(BadSizes(-1), call, trade, value)
        self.assertSame(Parties(STILL.trade, []).sizes, ())

    def test_words_of_a_house(self):
        dice = random.Random(491)
        for spec, sizes in cases(492, 60, most=6):
            words, parties = WordSpec(spec, sizes), Parties(spec.trade, sizes)
            for _ in range(4):
                house = random_house(dice, spec, 6)
                for word in words.words:
                    ways = words.ways(house, word)
                    self.assertSame(self.agrees(parties.word_takers, house=list(house)[::-1], word=word),
                                    tuple(stands for stands, _ in ways))
                    self.assertSame(self.agrees(parties.word_moves, house=list(house)[::-1], word=word),
                                    tuple(words.moves(house, word)))

    def test_rows_of_words(self):
        dice = random.Random(493)
        found = set()
        for spec, sizes in cases(494, 60):
            words, parties = WordSpec(spec, sizes), Parties(spec.trade, sizes)
            for _ in range(5):
                house, row = random_house(dice, spec, 4), random_words(dice, words, 5)
                told = tuple(words.front(house, row[:many]) for many in range(len(row) + 1))
                servings = words.servings(house, row)
                found.add(len(servings) > 0)
                named = {"house": list(house)[::-1], "row": row}
                self.assertSame(self.agrees(parties.word_fronts, **named), told)
                self.assertIs(self.agrees(parties.is_served, **named), servings != [])
                self.assertSame(self.agrees(parties.some_serving, **named), min(servings) if servings else None)
        self.assertEqual(found, {True, False})
        tide = Parties(TIDE.trade, {"b": 2})
        self.assertSame(len(tide.some_serving([0, 1, 2, 0], ["b", "0", "bb", "0"] * 50)), 100)
        self.assertSame((tide.is_served((), ["0"]), tide.is_served((), ["a"]), tide.some_serving((), ["0"])),
                        (True, False, ()))

    def test_wrong_words(self):
        parties = Parties(ROOMS.trade, [2, 1])
        for value in without(ANY, lambda value: value in ("a",)) + ["aaa", "bb", "ab", "0", "aa "]:
            for call in (parties.word_takers, parties.word_moves, parties.choice):
                self.fails(BadWord(-1), call, (0, 1), value)
            self.fails(BadWord(-1), parties.is_good_choice, (0, 1), value, None)
            for call in (parties.word_fronts, parties.is_served, parties.some_serving, parties.walk):
                self.fails(BadWord(1), call, (0, 1), ["aa", value, value] + ["b"] * 300)
        for value in NO_SEQUENCES:
            for call in (parties.word_fronts, parties.is_served, parties.some_serving, parties.walk):
                self.fails(BadWord(-1), call, (0, 1), value)
                self.fails(BadHouse(-1), call, value, None)
            for call in (parties.word_takers, parties.word_moves, parties.choice, parties.levels):
                self.fails(BadHouse(-1), call, value, None)
            self.fails(BadHouse(-1), parties.is_good_choice, value, None, None)
        for call in (parties.word_fronts, parties.is_served, parties.some_serving, parties.walk):
            self.fails(BadWord(200), call, (0, 1), ["a"] * 201)
            self.fails(BadWord(200), call, (0, 1), ("a",) * 200 + ("b", "x")[:1])
        self.assertIs(parties.is_served((0, 1), ["a"] * 200), False)


class PartiesVerdictTest(Case):
    def test_sides_and_clashes(self):
        sides, gaps = set(), 0
        for spec, sizes in list(cases(495, 120)) + list(gap_specs()):
            words, parties = WordSpec(spec, sizes), Parties(spec.trade, sizes)
            pairs = words.followed()
            for kind in spec.kinds:
                for p, q in itertools.product(takers(spec, kind), repeat=2):
                    told = words.side(pairs, kind, p, q)
                    sides.add(told)
                    self.assertSame(self.agrees(parties.side, kind=kind, p=p, q=q), told)
            clashes = words.clashes(pairs)
            self.assertSame(self.agrees(parties.clashes), clashes)
            self.assertIs(self.agrees(parties.is_rueless), clashes == ())
            self.assertEqual(Parties(spec.trade, [min(size, 2) for size in sizes]).clashes(), clashes)
            table = Table(spec.trade)
            gap = [one for one in clashes if table.side(*one) != "none"]
            gaps += len(gap) > 0
            self.assertSame(self.agrees(word_gap, trade=spec.trade, sizes=sizes), gap[0] if gap else None)
            if not any(size > 1 for size in sizes):
                self.assertEqual(gap, [])
        self.assertEqual(len(sides), 4)
        self.assertGreater(gaps, 1)

    def test_rueless_parties_have_stewards(self):
        found = set()
        for spec, sizes in list(cases(496, 40, stands=(2, 3))) + list(gap_specs()):
            if spec.stands > 4:
                continue
            words, parties = WordSpec(spec, sizes), Parties(spec.trade, sizes)
            told = all(is_steady(words, house) for places in range(4 if spec.stands < 4 else 3)
                       for house in itertools.combinations_with_replacement(range(spec.stands), places))
            found.add(told)
            if parties.is_rueless():
                self.assertTrue(told)
            else:
                kind, p, q = parties.clashes()[0]
                self.assertFalse(is_steady(words, (p, q)))
        self.assertEqual(found, {True, False})

    def test_levels_and_choices(self):
        dice = random.Random(497)
        many = set()
        for spec, sizes in cases(498, 120):
            words, parties = WordSpec(spec, sizes), Parties(spec.trade, sizes)
            pairs = words.followed()
            clashes = words.clashes(pairs)
            if clashes:
                for call in (parties.levels, parties.choice, parties.walk):
                    self.fails(NotRueless(*clashes[0]), call, None, None)
                self.fails(NotRueless(*clashes[0]), parties.is_good_choice, None, None, None)
                continue
            for _ in range(4):
                house = random_house(dice, spec, 5)
                for kind in spec.kinds:
                    levels = words.levels(pairs, house, kind)
                    many.add(len(levels))
                    self.assertSame(self.agrees(parties.levels, house=list(house)[::-1], kind=kind), levels)
                for word in words.words:
                    told = words.choice(pairs, house, word)
                    self.assertSame(self.agrees(parties.choice, house=list(house)[::-1], word=word), told)
                row = random_words(dice, words, 6)
                now, served = house, 0
                for word in row:
                    stands = words.choice(pairs, now, word)
                    if stands is None:
                        break
                    now = dict(words.ways(now, word))[stands]
                    served += 1
                self.assertSame(self.agrees(parties.walk, house=list(house)[::-1], row=row), (served, now))
                longest = max(at for at in range(len(row) + 1) if words.front(house, row[:at]))
                self.assertEqual(served, longest)
        self.assertTrue({0, 1, 2, 3} <= many)
        mingled = Parties(MINGLED.trade)
        self.assertSame((mingled.side("c", 0, 1), mingled.side("c", 1, 2), mingled.side("c", 0, 2)),
                        ("both", "both", "first"))
        self.assertSame((mingled.levels((0, 1, 2), "c"), mingled.levels((0, 2, 2), "c")), (((0, 1, 2),), ((0,), (2,))))

    def test_good_choices(self):
        dice = random.Random(499)
        found = set()
        for spec, sizes in cases(500, 80):
            words, parties = WordSpec(spec, sizes), Parties(spec.trade, sizes)
            pairs = words.followed()
            if words.clashes(pairs):
                continue
            for _ in range(3):
                house = random_house(dice, spec, 4)
                for word in words.words:
                    ways = [stands for stands, _ in words.ways(house, word)]
                    for stands in ways + [(0,) * len(word), (1, 0), (0, 1, 1), (), (2,), (0, 0)]:
                        told = stands in ways or tuple(sorted(stands)) in ways
                        if told and word not in spec.beats:
                            left = list(house)
                            for stand in stands:
                                left.remove(stand)
                            levels = words.levels(pairs, house, word[0])
                            used = [at for at, level in enumerate(levels) if set(level) & set(stands)]
                            told = not any(stand in left for level in levels[:max(used)] for stand in level)
                        found.add((told, stands in ways))
                        for turned in (list(stands), stands[::-1]):
                            self.assertIs(self.agrees(parties.is_good_choice, house=list(house)[::-1], word=word,
                                                      stands=turned), told)
                        if told:
                            for other in ways:
                                behind = dict(words.ways(house, word))
                                self.assertFalse(is_parting(words, behind[other], behind[tuple(sorted(stands))]))
        self.assertEqual(len(found), 4)
        parties = Parties(LEVELS.trade, {"a": 2})
        for value in without(ANY, lambda value: value in ((0, 1), [1, 0]) and not has_bool(value)):
            self.assertIs(parties.is_good_choice((0, 1, 2, 3), "aa", value), False)
        for value in ANY:
            self.assertIs(Parties(TIDE.trade).is_good_choice((0, 1), "0", value), isinstance(value, (list, tuple))
                          and len(value) == 0)
        self.assertIs(parties.is_good_choice((0, 1, 2, 3), "aa", (True, False)), False)
        self.assertSame(parties.levels((0, 1, 2, 3, 4, 0), "a"), ((0,), (1, 2), (3,)))
        for value, told in (((0, 0), True), ((0, 1), False), ((1, 2), False)):
            self.assertIs(parties.is_good_choice((0, 0, 1, 2), "aa", value), told)
        for value, told in (((0, 1), True), ((2, 0), True), ((1, 2), False), ((0, 3), False), ((0, 0), False)):
            self.assertIs(parties.is_good_choice((0, 1, 2, 3), "aa", value), told)

    def test_wrong_values_in_order(self):
        parties = Parties(ROOMS.trade, [2, 1])
        for value in no_letters("ab"):
            self.fails(NoLetter(value), parties.side, value, None, None)
            self.fails(NoLetter(value), parties.levels, (0, 1), value)
        for value in no_stands(ROOMS):
            self.fails(NoStand(value), parties.side, "a", value, None)
            self.fails(NoStand(value), parties.side, "a", 2, value)
            self.fails(BadHouse(1), parties.levels, [0, value], None)
        self.fails(NoLetter("0"), Parties(TIDE.trade).levels, (0,), "0")
        self.fails(CannotTake("a"), parties.side, "a", 0, 2)
        self.fails(CannotTake("b"), parties.side, "b", 0, 1)
        rueful = Parties(CROSSED.trade)
        self.fails(NotRueless("c", 0, 1), rueful.levels, 5, 5)


def is_odd(value):
    """Whether a value cannot be a key of a dict, or is equal to one that can."""
    try:
        hash(value)
    except TypeError:
        return True
    return False


def has_bool(value):
    return any(type(one) is bool for one in value)


def is_parting(words, house, other):
    """Whether the one serves a row of words that the other one does not."""
    queue = [((house,), (other,))]
    for front, rest in queue:
        if not rest:
            return True
        for word in words.words:
            pair = tuple(tuple(sorted({behind for one in houses for behind in words.moves(one, word)}))
                         for houses in (front, rest))
            if pair[0] and pair not in queue:
                queue.append(pair)
    return False


def is_steady(words, house):
    """Whether the house has a steward who serves all its rows of words: by rows alone."""
    bags = [house]
    for bag in bags:
        bags += [one for word in words.words for one in words.moves(bag, word) if one not in bags]
    steady = set(bags)
    while True:
        kept = {bag for bag in steady if all(not words.moves(bag, word) or any(
            one in steady and not any(is_parting(words, other, one) for other in words.moves(bag, word))
            for one in words.moves(bag, word)) for word in words.words)}
        if kept == steady:
            return house in steady
        steady = kept


def gap_specs():
    """Trades that are rueful for words alone, with sizes."""
    dice = random.Random(501)
    found = 0
    while found < 3:
        kinds = {kind: [dice.choice([None, 0, 1, 2, 3]) for _ in range(4)] for kind in "ab"}
        spec = Spec(4, kinds, {})
        if word_gap(spec.trade, [2, 2]) is not None:
            found += 1
            yield spec, [2, 2]


def is_pair(spec, value):
    return (type(value) is tuple and len(value) == 2 and all(is_house(spec.trade, one) and len(one) == 2 for one in value)
            and value[0] != value[1])


def slow_check(words, paper):
    if type(paper) is tuple and len(paper) == 3 and type(paper[0]) is str and paper[0] == "parties":
        return slow_check_parties(words, *paper[1:])
    if type(paper) is tuple and len(paper) == 5 and type(paper[0]) is str and paper[0] == "parties rueful":
        return slow_check_rueful(words, *paper[1:])
    return 0


def slow_check_parties(words, sides, rows):
    spec = words.spec
    if type(sides) is not tuple or type(rows) is not tuple:
        return 0
    if not all(type(side) is tuple and len(side) == 4 for side in sides):
        return 0
    if [side[:3] for side in sides] != words.two_takers() or any(bool in (type(one[1]), type(one[2])) for one in sides):
        return 0
    for kind, p, q, word in sides:
        if type(word) is not str or word not in ("first", "second", "both"):
            return 0
        first, second = choices(spec, kind, p, q)
        for pair, let in (((second, first), ("first", "both")), ((first, second), ("second", "both"))):
            if word in let and first != second and not any(is_pair(spec, one) and one == pair for one in rows):
                return 0
    for number, pair in enumerate(rows, 1):
        if not is_pair(spec, pair) or pair in rows[:number - 1]:
            return number
    letters = [word for word in words.words if len(word) < 3]
    for number, (x, y) in enumerate(rows, 1):
        if not all(any(x2 == y2 or (x2, y2) in rows for y2 in words.moves(y, word))
                   for word in letters for x2 in words.moves(x, word)):
            return number
    return None


def slow_check_rueful(words, kind, p, q, rows):
    spec = words.spec
    if type(kind) is not str or kind not in list(spec.kinds) or not all(type(one) is int for one in (p, q)):
        return 0
    if p not in takers(spec, kind) or q not in takers(spec, kind) or p >= q or type(rows) is not tuple:
        return 0
    first, second = choices(spec, kind, p, q)
    for pair in ((second, first), (first, second)):
        if not any(type(one) is tuple and is_pair(spec, one[:2]) and one[:2] == pair for one in rows):
            return 0
    for number, one in enumerate(rows, 1):
        if type(one) is not tuple or len(one) != 4 or not is_pair(spec, one[:2]) or not is_house(spec.trade, one[3]):
            return number
        if type(one[2]) is not str or one[2] not in words.words or len(one[2]) > 2:
            return number
    for number, (x, y, word, x2) in enumerate(rows, 1):
        ahead = [one[:2] for one in rows[:number - 1]]
        if x2 not in words.moves(x, word) or not all((x2, y2) in ahead for y2 in words.moves(y, word)):
            return number
    return None


def slow_strikes(words, kind, p, q):
    spec = words.spec
    houses = list(itertools.combinations_with_replacement(range(spec.stands), 2))
    letters = [word for word in words.words if len(word) < 3]
    ranks, told = {}, {}
    rank = 0
    while True:
        rank += 1
        found = {}
        for x, y in itertools.product(houses, repeat=2):
            for word in letters:
                for x2 in words.moves(x, word):
                    if (x, y) not in ranks and (x, y) not in found:
                        if all((x2, y2) in ranks for y2 in words.moves(y, word)):
                            found[(x, y)] = (word, x2)
        if not found:
            break
        ranks.update({pair: rank for pair in found})
        told.update(found)
    first, second = choices(spec, kind, p, q)
    queue, seen = [(second, first), (first, second)], set()
    for x, y in queue:
        if (x, y) not in seen:
            seen.add((x, y))
            queue += [(told[(x, y)][1], y2) for y2 in words.moves(y, told[(x, y)][0])]
    return tuple(pair + told[pair] for pair in sorted(seen, key=lambda pair: (ranks[pair], pair)))


class PartyPaperTest(Case):
    def test_papers(self):
        found = set()
        for spec, sizes in list(cases(502, 80)) + list(gap_specs()):
            words, parties = WordSpec(spec, sizes), Parties(spec.trade, sizes)
            paper = self.agrees(parties.party_paper)
            pairs = words.followed()
            clashes = words.clashes(pairs)
            found.add(paper[0])
            if clashes:
                self.assertSame(paper, ("parties rueful",) + clashes[0] + (slow_strikes(words, *clashes[0]),))
            else:
                sides = tuple(one + (words.side(pairs, *one),) for one in words.two_takers())
                wanted = []
                for kind, p, q, word in sides:
                    first, second = choices(spec, kind, p, q)
                    wanted += [(second, first)] if word in ("first", "both") else []
                    wanted += [(first, second)] if word in ("second", "both") else []
                rows = set()
                for x, y in wanted:
                    if x != y and (x, y) not in rows:
                        rows.add((x, y))
                        wanted += [(x2, [y2 for y2 in words.moves(y, word) if (x2, y2) in pairs][0])
                                   for word in words.words if len(word) < 3 for x2 in words.moves(x, word)]
                self.assertSame(paper, ("parties", sides, tuple(sorted(rows))))
            self.assertIsNone(self.agrees(check_parties, trade=spec.trade, sizes=sizes, paper=paper))
        self.assertEqual(found, {"parties", "parties rueful"})

    def test_bent_papers(self):
        dice = random.Random(503)
        faults = {}
        for spec, sizes in list(cases(504, 80)) + list(gap_specs()):
            words, paper = WordSpec(spec, sizes), Parties(spec.trade, sizes).party_paper()
            rows = [paper[:-1] + (bent,) for bent in bends(dice, paper[-1], 25)]
            for bent in list(bends(dice, paper, 25)) + rows:
                told = slow_check(words, bent)
                faults[told] = faults.get(told, 0) + 1
                self.assertEqual(fault_of(check_parties, spec.trade, sizes, bent), told, bent)
        self.assertTrue(min(faults[None], faults[0], faults[1], faults[2]) > 20, faults)

    def test_other_papers(self):
        faults = {}
        for spec, sizes in list(cases(505, 60)) + list(gap_specs()):
            words, paper = WordSpec(spec, sizes), Parties(spec.trade, sizes).party_paper()
            if paper[0] == "parties":
                every = tuple(pair for pair in sorted(words.followed()) if pair[0] != pair[1])[::-1]
                self.assertIsNone(check_parties(spec.trade, sizes, paper[:2] + (every,)))
            else:
                self.assertIsNone(check_parties(spec.trade, sizes, paper[:4] + (paper[4] * 2,)))
            # The same paper for other sizes holds, or not.
            for other in itertools.product((1, 2, 3), repeat=len(sizes)):
                told = slow_check(WordSpec(spec, other), paper)
                faults[told] = faults.get(told, 0) + 1
                self.assertEqual(fault_of(check_parties, spec.trade, other, paper), told)
        self.assertGreater(len(faults), 1)

    def test_any_values(self):
        for spec, sizes in ((ROOMS, {"a": 2}), (CROSSED, None)):
            paper = Parties(spec.trade, sizes).party_paper()
            words = WordSpec(spec, Parties(spec.trade, sizes).sizes)
            for value in ANY + [list(paper), paper[1:], paper + ((),), ("rueless",) + paper[1:]]:
                self.fails(PaperFault(0), check_parties, spec.trade, sizes, value)
                for at in range(len(paper)):
                    bent = paper[:at] + (value,) + paper[at + 1:]
                    self.assertEqual(fault_of(check_parties, spec.trade, sizes, bent), slow_check(words, bent))
        long = ("parties rueful", "c", 0, 1, (((0, 1), (0, 2), "aaa", (0, 1)),))
        self.assertEqual(fault_of(check_parties, CROSSED.trade, [3, 3, 3], long), 0)
        rows = Parties(CROSSED.trade).party_paper()[4]
        for word, fault in (("aaa", len(rows) + 1), ("aa", len(rows) + 1)):
            # A word of three letters is wrong by its form, one of two is not let in that house.
            more = rows + (((0, 1), (0, 2), word, (0, 1)), ((0, 0), (0, 0), "a", ()))
            told = slow_check(WordSpec(CROSSED, (3, 3, 3)), ("parties rueful", "c", 0, 1, more))
            self.assertEqual(fault_of(check_parties, CROSSED.trade, (3, 3, 3), ("parties rueful", "c", 0, 1, more)), told)
            self.assertEqual(told, fault if word == "aaa" else len(rows) + 2)


if __name__ == "__main__":
    unittest.main()
