import itertools
import random
import unittest

from helpers import ANY, NO_SEQUENCES, NO_STRINGS, Case, no_letters, without
from rueless.cans import Cans
from rueless.errors import BadHouse, BadShape, NoLetter, Refused
from rueless.houses import all_houses, served
from rueless.rows import can_serve
from rueless.shapes import Piles, Rooms, Shape, Stays
from rueless.stewards import Steward, house_within, right_takers
from rueless.trades import Trade
from rueless.twos import Table
from rueless.verdict import clashes, is_rueless

SETS = ["".join(one) for many in range(5) for one in itertools.combinations("abcd", many)]


def some_rooms(seed, many):
    dice = random.Random(seed)
    yield Rooms("", [])
    yield Rooms("", [""])
    yield Rooms("ab", [])
    yield Rooms("acd", ["", "acd", "d"])
    for _ in range(many):
        kinds = dice.choice(["a", "ab", "bd", "abc", "abcd"])
        sets = ["".join(one) for size in range(len(kinds) + 1) for one in itertools.combinations(kinds, size)]
        yield Rooms(kinds, dice.sample(sets, min(len(sets), dice.randrange(6))))


def all_piles():
    """Piles of all ways in which at most three kinds bear each other, and of some with four."""
    for kinds in ("", "a", "bd", "acd"):
        pairs = [x + y for x in kinds for y in kinds if x != y]
        for many in range(len(pairs) + 1):
            for chosen in itertools.combinations(pairs, many):
                yield kinds, [kind * 2 for kind in kinds] + list(chosen)
    dice = random.Random(1)
    for _ in range(120):
        bears = {kind * 2 for kind in "abcd"} | set(dice.sample([x + y for x in "abcd" for y in "abcd" if x != y], 3))
        while True:
            more = {x[0] + y[1] for x in bears for y in bears if x[1] == y[0]}
            if more <= bears:
                break
            bears |= more
        yield "abcd", sorted(bears, key=lambda _: dice.random())


def is_transitive(bears):
    return all(x[0] + y[1] in bears for x in bears for y in bears if x[1] == y[0])


def some_stays(seed, many):
    dice = random.Random(seed)
    while many:
        kinds = dice.choice(["a", "ab", "abc"])
        sets = ["".join(one) for size in range(len(kinds) + 1) for one in itertools.combinations(kinds, size)]
        sorts = [(dice.choice(sets), dice.randrange(1, 4)) for _ in range(dice.randrange(1, 4))]
        if sum(stay + 1 for _, stay in sorts) <= 6 and len(set(sorts)) == len(sorts):
            many -= 1
            yield kinds, sorts


def some_cans(seed, many):
    dice = random.Random(seed)
    for _ in range(many):
        sizes = sorted(dice.sample(range(1, 10), dice.randrange(1, 5)))
        yield sizes, dice.randrange(1, 10)


class ShapeCase(Case):
    def checks_verdict(self, shape):
        """The verdict is the table's; of a rueful shape the rows show that neither choice is right."""
        table = Table(shape.trade)
        verdict = self.agrees(shape.verdict)
        if verdict == ("silent",):
            return verdict[0]
        self.assertIs(is_rueless(table), verdict == ("rueless",), (shape.names, verdict))
        if verdict[0] == "rueful":
            _, kind, p, q, u, v = verdict
            self.assertIn((kind, p, q), clashes(table))
            one, two = [served(shape.trade, (p, q), kind, stand) for stand in (p, q)]
            told = [can_serve(shape.trade, house, row) for row in (u, v) for house in (one, two)]
            self.assertEqual(told, [True, False, False, True], (shape.names, verdict))
            self.fails(Refused(kind), shape.choice, (p, q), kind)
        return verdict[0]

    def checks_choices(self, shape, dice, places=3):
        """The choice of the rule loses no row."""
        steward = Steward(Table(shape.trade))
        for _ in range(6):
            house = tuple(dice.randrange(shape.trade.stands) for _ in range(dice.randrange(places + 1)))
            for kind in shape.trade.kinds:
                stand = self.agrees(shape.choice, house=list(house), kind=kind)
                right = right_takers(steward, house, kind)
                if stand is None:
                    self.assertEqual(right, ())
                else:
                    self.assertIn(stand, right)

    def checks_errors(self, shape, kinds):
        for value in NO_SEQUENCES:
            self.fails(BadHouse(-1), shape.choice, value, None)
        self.fails(BadHouse(1), shape.choice, (0, shape.trade.stands), None)
        for value in no_letters(kinds):
            self.fails(NoLetter(value), shape.choice, (0,), value)
        self.fails(NoLetter("0"), shape.choice, (0,), "0")


class RoomsTest(ShapeCase):
    def test_trades_and_names(self):
        rooms = Rooms(kinds="abd", lists=["ab", "", "d"])
        self.assertEqual(rooms.trade, Trade(4, {"a": [3, None, None, None], "b": [3, None, None, None],
                                                "d": [None, None, 3, None]}))
        self.assertSame(rooms.names, ("ab", "-", "d", "taken"))
        self.assertSame((Rooms("", []).names, Rooms("", ()).trade.stands), (("taken",), 1))
        self.assertIsInstance(rooms, Shape)

    def test_equal(self):
        self.assertEqual(Rooms("ab", ["a", "b"]), Rooms("ab", ("a", "b")))
        self.assertNotEqual(Rooms("ab", ["a", "b"]), Rooms("ab", ["b", "a"]))
        self.assertNotEqual(Rooms("", []), Piles("", []))
        self.assertFalse(any(Rooms("ab", ["a"]) == value for value in ANY))

    def test_verdicts(self):
        words = set()
        for rooms in some_rooms(1000, 60):
            words.add(self.checks_verdict(rooms))
            lists = [set(name) for name in rooms.names[:-1] if name != "-"]
            crossed = any(one & two and one - two and two - one for one, two in itertools.combinations(lists, 2))
            self.assertIs(rooms.verdict()[0] == "rueful", crossed)
        self.assertEqual(words, {"rueless", "rueful"})
        self.assertSame(Rooms("abcd", ["ab", "cd", "bcd", "ac"]).verdict(), ("rueful", "b", 0, 2, "c", "a"))
        self.assertSame(Rooms("abcd", ["acd", "ab"]).verdict(), ("rueful", "a", 0, 1, "b", "c"))
        self.assertSame(Rooms("abcd", ["ab", "acd"]).verdict(), ("rueful", "a", 0, 1, "c", "b"))
        self.assertSame(Rooms("abcd", ["abc", "bcd"]).verdict(), ("rueful", "b", 0, 1, "d", "a"))

    def test_choices(self):
        dice = random.Random(1001)
        for rooms in some_rooms(1002, 40):
            if rooms.verdict() == ("rueless",):
                self.checks_choices(rooms, dice)
        rooms = Rooms("abc", ["abc", "c", "bc"])
        self.assertSame([rooms.choice((0, 1, 2, 3), kind) for kind in "abc"], [0, 2, 1])
        self.assertIsNone(rooms.choice([1, 3], "a"))
        self.checks_errors(rooms, "abc")

    def test_measures(self):
        dice = random.Random(1003)
        for rooms in some_rooms(1004, 50):
            kinds = rooms.trade.kinds
            lists = [name if name != "-" else "" for name in rooms.names[:-1]]
            sets = [one for one in SETS[1:] if set(one) <= set(kinds)]
            house = [dice.randrange(rooms.trade.stands) for _ in range(dice.randrange(5))]
            told = tuple((one, sum(stand < len(lists) and bool(set(lists[stand]) & set(one)) for stand in house)
                          if lists else 0) for one in sets)
            self.assertSame(self.agrees(rooms.measure, house=house), told)
            for _ in range(5):
                counts = [dice.randrange(3) for _ in kinds]
                full = self.agrees(rooms.overfull, house=house, counts=counts)
                over = [one for one, many in told if sum(count for kind, count in zip(kinds, counts) if kind in one) > many]
                self.assertSame(full, over[0] if over else None)
                row = list("".join(kind * count for kind, count in zip(kinds, counts)))
                dice.shuffle(row)
                self.assertIs(can_serve(rooms.trade, house, "".join(row)), full is None)

    def test_wrong_values(self):
        for value in NO_STRINGS + ["ba", "aa", "e", "a0", "abcde", "A", " "]:
            self.fails(BadShape(0), Rooms, value, None)
            self.fails(BadShape(0), Piles, value, None)
            self.fails(BadShape(0), Stays, value, None)
        for value in without(ANY, lambda one: isinstance(one, (list, tuple)) and all(each in ("a", "b") for each in one)) + [
                ["a", "a"], ["", ""], ["ba"], ["c"], [None], ["a", 0], "ab", ["", "a", "b", "ab", "", "a"]]:
            self.fails(BadShape(1), Rooms, "ab", value)
        self.fails(BadShape(1), Rooms, "abcd", ["", "a", "b", "ab", "c", "ac"])
        self.assertSame(Rooms("abcd", ["", "a", "b", "ab", "c"]).trade.stands, 6)
        rooms = Rooms("abc", ["ac", "bc"])
        for value in NO_SEQUENCES:
            self.fails(BadHouse(-1), rooms.measure, value)
            self.fails(BadHouse(-1), rooms.overfull, value, None)
            self.fails(Refused(-1), rooms.overfull, (0,), value)
        for value in without(ANY, lambda one: type(one) is int and one >= 0):
            self.fails(Refused(-1), rooms.overfull, (0, 1), [1, value, 0])
        for value in [(), (1, 1), [0, 0, 0, 0]]:
            self.fails(Refused(-1), rooms.overfull, (0, 1), value)
        self.assertSame(rooms.overfull((0, 1), (10 ** 9, 0, 0)), "a")
        self.assertSame(rooms.overfull((0, 1), (0, 0, 3)), "c")


class PilesTest(ShapeCase):
    def test_trades_and_names(self):
        piles = Piles(kinds="acd", bears=["dd", "ac", "aa", "cc"])
        self.assertEqual(piles.trade, Trade(4, {"a": [1, 1, None, None], "c": [2, 2, 2, None], "d": [3, None, None, 3]}))
        self.assertSame(piles.names, ("bare", "a", "c", "d"))
        self.assertEqual(piles, Piles("acd", ("aa", "cc", "dd", "ac")))
        self.assertNotEqual(piles, Piles("acd", ("aa", "cc", "dd", "ad")))
        self.assertSame(Piles("", []).names, ("bare",))

    def test_verdicts_and_choices(self):
        dice = random.Random(1005)
        words = {}
        for kinds, bears in all_piles():
            if not is_transitive(bears):
                self.fails(BadShape(3), Piles, kinds, bears)
                continue
            piles = Piles(kinds, bears)
            word = self.checks_verdict(piles)
            words[word] = words.get(word, 0) + 1
            broken = [(z, kinds.index(x) + 1, kinds.index(y) + 1, y, x) for z in kinds for x, y in itertools.combinations(kinds, 2)
                      if x + z in bears and y + z in bears and x + y not in bears and y + x not in bears]
            self.assertSame(piles.verdict(), ("rueful",) + broken[0] if broken else ("rueless",))
            if word == "rueless" and dice.random() < 0.4:
                self.checks_choices(piles, dice)
        self.assertGreater(min(words.values()), 8, words)

    def test_the_rule(self):
        # d bears all, c and b bear each other and a: a is the top that most others bear.
        piles = Piles("abcd", ["aa", "bb", "cc", "dd", "da", "db", "dc", "bc", "cb", "ba", "ca"])
        self.assertSame([piles.choice(house, "a") for house in [(0, 1, 2, 3), (0, 2, 3, 4), (0, 4), (0,), (4, 4, 3)]],
                        [1, 2, 4, 0, 3])
        self.assertIsNone(piles.choice((1, 2, 3), "d"))
        self.checks_errors(piles, "abcd")

    def test_wrong_values(self):
        right = ["aa", "bb"]
        for value in NO_SEQUENCES + [["aa", "bb", "aa"], ["a", "aa", "bb"], ["aab", "aa", "bb"], ["ac", "aa", "bb"],
                                     ["", "aa", "bb"], [1, "aa"], [("a", "a"), "bb"], [["aa"], "aa", "bb"], "aabb"]:
            self.fails(BadShape(1), Piles, "ab", value)
        for value in without(ANY, lambda one: one == "ab"):
            self.fails(BadShape(1), Piles, "ab", right + [value])
        for value in [[], ["aa"], ["bb", "ab"], ("ab", "ba", "aa")]:
            self.fails(BadShape(2), Piles, "ab", value)
        self.fails(BadShape(3), Piles, "abc", ["aa", "bb", "cc", "ab", "bc"])
        self.fails(BadShape(2), Piles, "abc", ["bb", "cc", "ab", "bc"])
        self.assertSame(Piles("abc", ["aa", "bb", "cc", "ab", "bc", "ac"]).verdict(), ("rueless",))


class StaysTest(ShapeCase):
    def test_trades_and_names(self):
        stays = Stays(kinds="ab", sorts=[["ab", 3], ("", 1)])
        self.assertEqual(stays.trade, Trade(6, {"a": [1, None, None, None, None, None], "b": [1, None, None, None, None, None]},
                                            {"0": [0, 2, 3, 0, 4, 4]}))
        self.assertSame(stays.names, ("ab 3", "ab 3 taken 3", "ab 3 taken 2", "ab 3 taken 1", "- 1", "- 1 taken 1"))
        self.assertEqual(stays, Stays("ab", (("ab", 3), ["", 1])))
        self.assertNotEqual(stays, Stays("ab", (("", 1), ["ab", 3])))
        self.assertEqual(Stays("", [("", 5)]).trade, Trade(6, {}, {"0": [0, 2, 3, 4, 5, 0]}))

    def test_verdicts_and_choices(self):
        dice = random.Random(1006)
        found = {}
        for kinds, sorts in some_stays(1007, 150):
            stays = Stays(kinds, sorts)
            word = self.checks_verdict(stays)
            verdict = stays.verdict()
            key = word if word == "rueless" else ("0" in verdict[4], "0" in verdict[5])
            found[key] = found.get(key, 0) + 1
            if word == "rueless" and dice.random() < 0.3:
                self.checks_choices(stays, dice)
        self.assertEqual(set(found), {"rueless", (False, False), (True, False), (False, True)})

    def test_the_rows(self):
        self.assertSame(Stays("ab", [("a", 2), ("ab", 2)]).verdict(), ("rueful", "a", 0, 3, "b", "0a0b"))
        self.assertSame(Stays("ab", [("ab", 1), ("a", 2)]).verdict(), ("rueful", "a", 0, 2, "0ab", "b"))
        self.assertSame(Stays("abc", [("ab", 1), ("ac", 1)]).verdict(), ("rueful", "a", 0, 2, "c", "b"))
        self.assertSame(Stays("ab", [("b", 1), ("ab", 3)]).verdict(), ("rueless",))
        self.assertSame(Stays("ab", [("ab", 1), ("ab", 2)]).verdict(), ("rueless",))
        self.assertSame(Stays("ab", [("a", 1), ("b", 3)]).verdict(), ("rueless",))

    def test_the_rule(self):
        stays = Stays("ab", [("ab", 1), ("ab", 2)])
        self.assertSame((stays.choice((0, 2), "a"), stays.choice((2, 3), "b"), stays.choice((1, 3), "a")), (0, 2, None))
        stays = Stays("ab", [("ab", 3), ("b", 1)])
        self.assertSame((stays.choice((0, 4), "b"), stays.choice((0, 4), "a")), (4, 0))
        stays = Stays("a", [("a", 2), ("a", 1)])
        self.assertSame((stays.choice((0, 3), "a"), stays.choice((0, 0), "a")), (3, 0))
        self.checks_errors(stays, "a")

    def test_wrong_values(self):
        for value in ANY + [[("a", 1), ("a", 1)], [("a", 1), ["a", 1]], [("a", 0)], [("a", True)], [("ba", 1)], [("c", 1)],
                            [("a",)], [("a", 1, 1)], [("a", "1")], ["a1"], [(1, "a")], [("a", 6)], [("a", 2), ("b", 3)],
                            [("a", -1)]]:
            self.fails(BadShape(1), Stays, "ab", value)
        self.assertSame(Stays("ab", [("a", 1), ("b", 3)]).trade.stands, 6)
        self.assertSame(Stays("ab", [("a", 5)]).trade.stands, 6)


class CansTest(ShapeCase):
    def test_trades_and_names(self):
        cans = Cans(sizes=[2, 3, 5], greatest=4)
        self.assertEqual(cans.trade, Trade(5, {"a": [None, None, 0, 1, 2], "b": [None, None, None, 0, 1], "c": [None] * 5}))
        self.assertSame(cans.names, ("0", "1", "2", "3", "4"))
        self.assertEqual(cans, Cans((2, 3, 5), 4))
        self.assertNotEqual(cans, Cans((2, 3, 5), 5))
        self.assertNotEqual(cans, Cans((2, 3, 6), 4))
        self.assertFalse(any(cans == value for value in ANY))

    def test_verdicts(self):
        words = {}
        cases = list(some_cans(1008, 45)) + [([1, 2, 4, 8], 9), ([2, 3, 4], 5), ([2, 3, 4], 4), ([4, 6, 9], 9), ([2, 5, 6], 8)]
        for sizes, greatest in cases:
            word = self.checks_verdict(Cans(sizes, greatest))
            words[word] = words.get(word, 0) + 1
        self.assertEqual(set(words), {"rueless", "rueful", "silent"}, words)

    def test_all_verdicts(self):
        words = {}
        for many in range(1, 5):
            for sizes in itertools.combinations(range(1, 10), many):
                for greatest in range(1, 10):
                    cans = Cans(sizes, greatest)
                    verdict = cans.verdict()
                    counting = [size for size in sizes if size <= greatest]
                    chain = all(two % one == 0 for one, two in zip(counting, counting[1:]))
                    triples = [(a, b, c) for a, b, c in itertools.combinations(counting, 3)
                               if (b % a or c % b) and c + a - 1 <= greatest]
                    if chain or len(counting) <= 2:
                        self.assertSame(verdict, ("rueless",))
                    elif not triples:
                        self.assertSame(verdict, ("silent",))
                    else:
                        a, b, c = triples[0]
                        letters = dict(zip(sizes, "abcd"))
                        rest = c % b
                        key = "far" if rest >= a else "near" if rest else "even"
                        words[key] = words.get(key, 0) + 1
                        q = {"far": c, "near": c + a - rest, "even": c + a - b % a}[key]
                        v = letters[b] * (c // b) + letters[a] * (b // a) if key == "even" else letters[b] * (1 + c // b)
                        self.assertSame(verdict, ("rueful", letters[a], b, q, letters[c], v))
                        one, two = [served(cans.trade, (b, q), letters[a], stand) for stand in (b, q)]
                        told = [can_serve(cans.trade, house, row) for row in verdict[4:] for house in (one, two)]
                        self.assertEqual(told, [True, False, False, True], (sizes, greatest, verdict))
        self.assertGreater(min(words[key] for key in ("far", "near", "even")), 2, words)

    def test_measures(self):
        dice = random.Random(1009)
        kinds = set()
        for sizes, greatest in list(some_cans(1010, 60)) + [([2, 3], 9), ([2, 9], 9), ([9], 3), ([3, 7], 9), ([2, 3, 7], 5)]:
            cans = Cans(sizes, greatest)
            counting = [size for size in sizes if size <= greatest]
            chain = all(two % one == 0 for one, two in zip(counting, counting[1:]))
            house = [dice.randrange(greatest + 1) for _ in range(dice.randrange(4))]
            if not chain and len(counting) > 2:
                self.fails(Refused(0), cans.measure, house)
                self.fails(Refused(0), cans.is_within, house, None)
                continue
            letters = dict(zip(sizes, "abcd"))

            def most(letter, ahead=""):
                many = 0
                while can_serve(cans.trade, house, ahead + letter * (many + 1)):
                    many += 1
                return many

            if chain:
                told = tuple(most(letters[size]) for size in counting)
            else:
                # Both orders serve the same, as what comes is taken away from the cans alike.
                told = tuple(most(letters[counting[0]], letters[counting[1]] * many)
                             for many in range(most(letters[counting[1]]) + 1))
            kinds.add((chain, len(counting)))
            self.assertSame(self.agrees(cans.measure, house=house), told, (sizes, greatest, house))
        self.assertTrue({(True, 0), (True, 1), (True, 2), (False, 2)} <= kinds, kinds)

    def test_within(self):
        dice = random.Random(1011)
        found = set()
        for sizes, greatest in [([2, 3], 7), ([1, 2, 4], 6), ([2, 5], 9), ([3, 4], 5), ([4], 3)]:
            cans = Cans(sizes, greatest)
            steward = Steward(Table(cans.trade))
            for _ in range(40):
                house, other = [[dice.randrange(greatest + 1) for _ in range(dice.randrange(4))] for _ in range(2)]
                told = self.agrees(cans.is_within, house=house, other=other)
                self.assertIs(told, house_within(steward, house, other))
                found.add(told)
        self.assertEqual(found, {True, False})

    def test_choices(self):
        dice = random.Random(1012)
        for sizes, greatest in list(some_cans(1013, 12)) + [([2, 3], 9), ([2, 9], 9), ([3, 7], 9), ([1, 2, 4], 9), ([4, 9], 9)]:
            cans = Cans(sizes, greatest)
            if cans.verdict() == ("rueless",):
                self.checks_choices(cans, dice)
        cans = Cans([2, 3], 9)
        self.assertSame([cans.choice(house, "a") for house in [(2, 3), (3, 4), (4, 5), (2, 2), (1, 0), (3, 5)]],
                        [2, 4, 5, 2, None, 5])
        self.checks_errors(cans, "ab")
        for value in NO_SEQUENCES:
            self.fails(BadHouse(-1), cans.measure, value)
            self.fails(BadHouse(-1), cans.is_within, (2,), value)
        self.fails(BadHouse(1), cans.is_within, (2, 10), None)
        many = Cans([2, 3, 4], 9)
        self.fails(Refused("a"), many.choice, (9,), "a")
        self.fails(NoLetter("d"), many.choice, (9,), "d")
        self.fails(BadHouse(-1), many.measure, None)
        silent = Cans([2, 3, 4], 4)
        self.assertSame(silent.verdict(), ("silent",))
        self.fails(Refused("c"), silent.choice, (4,), "c")

    def test_wrong_values(self):
        for value in ANY + [[3, 2], [2, 2], [0], [10], [1, 2, 3, 4, 5], [True], ["1"], "12", (9, 10)]:
            self.fails(BadShape(0), Cans, value, None)
        for value in without(ANY, lambda one: type(one) is int and 1 <= one <= 9) + [10]:
            self.fails(BadShape(1), Cans, [2, 3], value)
        self.assertSame(Cans((1,), 1).names, ("0", "1"))


if __name__ == "__main__":
    unittest.main()
