import itertools
import random
import unittest

from helpers import (ANY, CROSSED, NO_SEQUENCES, ROOMS, SILENT, STILL, TIDE, Case, Spec, bends, fault_of, is_plain,
                     no_letters, specs, without)
from rueless.errors import NoLetter, PaperFault, Refused
from rueless.kindsets import (barred_dealings, check_kinds, check_yards, complement_sets, fewest_yards, is_safe,
                              kind_dealings, kinds_paper, meeting_sets, rueful_sets, safe_sets, yards_paper)
from rueless.stories import all_stories, story_kinds
from rueless.strikes import check_verdict, verdict_paper
from rueless.trades import Trade, cut_kinds
from rueless.twos import Table

# b and c are each rueful alone, a is not.
ALONE = Spec(3, {"a": [2, 1, 2], "b": [1, None, 0], "c": [None, 2, 0]}, {"0": [2, 0, 0]})
LISTS = Spec(3, {"a": [2, None, None], "b": [None, 2, None], "c": [2, 2, None]})
FOUR = Spec(5, {"a": [4, None, None, 4, None], "b": [None, 4, None, None, None], "c": [4, 4, None, None, None],
                "d": [None, None, 4, 4, None]})
# Three and four yards are needed.
THREE_YARDS = Spec(3, {"a": [1, None, 0], "b": [1, None, None], "c": [None, 0, 0], "d": [None, None, 2]}, {"0": [1, 0, 2]})
FOUR_YARDS = Spec(4, {"a": [None, 3, 1, 0], "b": [1, 1, 1, 2], "c": [1, None, 1, 2], "d": [None, 2, 0, 0]},
                  {"0": [0, 1, 2, 1]})
TOLD = [CROSSED, ROOMS, SILENT, STILL, TIDE, ALONE, LISTS, FOUR, THREE_YARDS, FOUR_YARDS]


def all_sets(kinds):
    return ["".join(one) for many in range(len(kinds) + 1) for one in itertools.combinations(kinds, many)]


def has_clash(spec, kinds):
    return any(side == "none" for kind in kinds for _, _, side in Table(cut_kinds(spec.trade, kinds)).sides(kind))


def slow_dealings(kinds, most):
    found = []
    for yards in itertools.product(range(most), repeat=len(kinds)):
        firsts = [yards.index(yard) for yard in range(max(yards, default=-1) + 1) if yard in yards]
        if len(firsts) == max(yards, default=-1) + 1 and firsts == sorted(firsts):
            found.append(tuple("".join(kind for kind, one in zip(kinds, yards) if one == yard)
                               for yard in range(len(firsts))))
    return tuple(found)


def cases(seed, many):
    return specs(seed, many, stands=(2, 3, 4), kinds=("", "a", "ab", "abc", "abcd"), empty=0.45) + TOLD


class SetsTest(Case):
    def test_safe_and_rueful_sets(self):
        found = set()
        for spec in cases(900, 30):
            safe = [one for one in all_sets(spec.kinds) if not has_clash(spec, one)]
            rueful = [one for one in all_sets(spec.kinds) if one not in safe]
            for one in all_sets(spec.kinds):
                self.assertIs(self.agrees(is_safe, trade=spec.trade, kinds=one), one in safe)
                self.assertIs(self.agrees(is_safe, trade=spec.trade, kinds=list(one[::-1]) + list(one[:1])), one in safe)
                self.assertIs(is_safe(spec.trade, one[::-1] + one), one in safe)
            greatest = tuple(one for one in safe if not any(set(one) < set(other) for other in safe))
            least = tuple(one for one in rueful if not any(set(one) > set(other) for other in rueful))
            self.assertSame(self.agrees(safe_sets, trade=spec.trade), greatest)
            self.assertSame(self.agrees(rueful_sets, trade=spec.trade), least)
            found.add(tuple(len(one) for one in least))
        self.assertGreater(len(found), 4)
        self.assertIn((1,), found)
        self.assertSame((safe_sets(STILL.trade), rueful_sets(STILL.trade)), (("",), ()))
        self.assertSame((safe_sets(ALONE.trade), rueful_sets(ALONE.trade)), (("a",), ("b", "c")))
        self.assertSame(fewest_yards(ALONE.trade), (False, "bc"))

    def test_it_holds_of_the_sets(self):
        for spec in cases(901, 20):
            safe, rueful = safe_sets(spec.trade), rueful_sets(spec.trade)
            lacking = complement_sets(spec.kinds, safe)
            self.assertSame(rueful, meeting_sets(spec.kinds, lacking))
            self.assertSame(meeting_sets(spec.kinds, rueful), tuple(sorted(lacking, key=lambda one: (len(one), one))))
            if spec.stands <= 3:
                for story in all_stories(Table(spec.trade)):
                    self.assertIs(is_safe(spec.trade, story_kinds(story)), False)

    def test_wrong_sets(self):
        for value in without(ANY, lambda one: isinstance(one, (str, list, tuple))):
            self.fails(NoLetter(value), is_safe, CROSSED.trade, value)
        for value in no_letters("abc"):
            self.fails(NoLetter(value), is_safe, CROSSED.trade, ["a", "c", value, "x"])
            self.fails(NoLetter(value), is_safe, CROSSED.trade, (value, None))
        self.fails(NoLetter("d"), is_safe, CROSSED.trade, "abdx")
        self.fails(NoLetter("0"), is_safe, TIDE.trade, "ab0")

    def test_complements_and_meeting_sets(self):
        dice = random.Random(902)
        for _ in range(150):
            kinds = "".join(sorted(dice.sample("abcd", dice.randrange(5))))
            sets = ["".join(sorted(dice.sample(kinds, dice.randrange(len(kinds) + 1)))) for _ in range(dice.randrange(4))]
            told = [dice.choice([one, list(one), one[::-1] + one[:1]]) for one in sets]
            lacking = tuple("".join(kind for kind in kinds if kind not in one) for one in sets)
            self.assertSame(self.agrees(complement_sets, kinds=list(kinds[::-1]), sets=told), lacking)
            self.assertSame(complement_sets(kinds + kinds, told), lacking)
            meeting = [one for one in all_sets(kinds) if all(set(one) & set(other) for other in sets)]
            least = tuple(one for one in meeting if not any(set(one) > set(other) for other in meeting))
            self.assertSame(self.agrees(meeting_sets, kinds=kinds, sets=told), least)
        self.assertSame((meeting_sets("abc", []), meeting_sets("abc", ["", "ab"])), (("",), ()))
        self.assertSame((meeting_sets("", ()), complement_sets("", [""])), (("",), ("",)))

    def test_wrong_complements_and_meeting_sets(self):
        for call in (complement_sets, meeting_sets):
            for value in without(ANY, lambda one: isinstance(one, (str, list, tuple))):
                self.fails(NoLetter(value), call, value, None)
                self.fails(NoLetter(value), call, "ab", ["a", value, 7])
            for value in NO_SEQUENCES:
                self.fails(NoLetter(value), call, "abcd", value)
            for value in no_letters("abcd"):
                self.fails(NoLetter(value), call, ["a", value], None)
                self.fails(NoLetter(value), call, "abcd", ["ab", ["a", value], None])
            self.fails(NoLetter("c"), call, "abd", ["ab", "adc", "x"])
            self.fails(NoLetter("0"), call, "a0", None)

    def test_dealings(self):
        for kinds in all_sets("abcd"):
            for most in range(5):
                told = self.agrees(kind_dealings, kinds=list(kinds), most=most)
                self.assertSame(told, slow_dealings(kinds, most))
        self.assertSame(kind_dealings("cba", 2), (("abc",), ("ab", "c"), ("ac", "b"), ("a", "bc")))
        self.assertSame((kind_dealings("", 0), kind_dealings("a", 0), kind_dealings("aa", 4)), (((),), (), (("a",),)))
        for value in without(ANY, lambda one: type(one) is int and 0 <= one <= 4) + [5]:
            self.fails(Refused(value), kind_dealings, "ab", value)
            self.fails(Refused(value), barred_dealings, CROSSED.trade, value)
        self.fails(NoLetter(7), kind_dealings, 7, None)
        self.fails(NoLetter("e"), kind_dealings, "ae", None)

    def test_yards(self):
        found = set()
        for spec in cases(903, 30):
            told = self.agrees(fewest_yards, trade=spec.trade)
            alone = "".join(kind for kind in spec.kinds if has_clash(spec, kind))
            if alone:
                self.assertSame(told, (False, alone))
                found.add("alone")
            for most in range(5):
                dealings = slow_dealings(spec.kinds, most)
                right = [one for one in dealings if not any(has_clash(spec, kinds) for kinds in one)]
                barred = self.agrees(barred_dealings, trade=spec.trade, most=most)
                if right:
                    self.assertIsNone(barred)
                    if most == 0 or barred_dealings(spec.trade, most - 1) is not None:
                        self.assertSame(told, (True, right[0]))
                        found.add(len(right[0]))
                    continue
                self.assertSame(barred, tuple(
                    (one, next(rueful for rueful in rueful_sets(spec.trade) if any(set(rueful) <= set(kinds) for kinds in one)))
                    for one in dealings))
        self.assertTrue({0, 1, 2, 3, 4, "alone"} <= found, found)


def is_told(spec, word, value):
    try:
        check_verdict(spec, value)
    except PaperFault:
        return False
    return value[0] == word


def slow_kinds_fault(spec, value):
    """The number of the first fault of a paper, None if there is none, by the words."""
    if type(value) is not tuple or len(value) != 3 or not is_plain(value[0]) or value[0] != "kinds":
        return 0
    for told in value[1:]:
        if type(told) is not tuple or not all(type(one) is tuple and len(one) == 2 for one in told):
            return 0
        sets = [one for one, _ in told]
        if not all(type(one) is str and one in all_sets(spec.kinds) for one in sets):
            return 0
        if [one for one in all_sets(spec.kinds) if one in sets] != sets:
            return 0
    told = [(one, "rueless") for one in value[1]] + [(one, "rueful") for one in value[2]]
    for number, ((kinds, paper), word) in enumerate(told, 1):
        if not is_told(cut_kinds(spec.trade, kinds), word, paper):
            return number
    if (tuple(one for one, _ in value[1]), tuple(one for one, _ in value[2])) != (
            safe_sets(spec.trade), rueful_sets(spec.trade)):
        return len(told) + 1
    return None


def slow_yards_fault(spec, value):
    if type(value) is not tuple or not value or not is_plain(value[0]):
        return 0
    if value[0] == "no yards":
        is_found, alone = fewest_yards(spec.trade)
        return None if not is_found and len(value) == 2 and type(value[1]) is str and value[1] == alone else 0
    if value[0] != "yards" or len(value) != 3 or not is_plain(value[1]) or value[1] not in slow_dealings(spec.kinds, 4):
        return 0
    if any(has_clash(spec, kinds) for kinds in value[1]) or type(value[2]) is not tuple:
        return 0
    dealings = slow_dealings(spec.kinds, len(value[1]) - 1) if value[1] else ()
    for number, (dealing, told) in enumerate(itertools.zip_longest(dealings, value[2]), 1):
        if dealing is None or type(told) is not tuple or len(told) != 2 or not is_plain(told) or told[0] != dealing:
            return number
        if told[1] not in rueful_sets(spec.trade) or not any(set(told[1]) <= set(kinds) for kinds in dealing):
            return number
    return None


class PapersTest(Case):
    def test_told_papers(self):
        for spec in cases(904, 20):
            trade = spec.trade
            told = tuple(tuple((one, verdict_paper(Table(cut_kinds(trade, one)))) for one in sets)
                         for sets in (safe_sets(trade), rueful_sets(trade)))
            paper = self.agrees(kinds_paper, trade=trade)
            self.assertSame(paper, ("kinds",) + told)
            self.assertIsNone(check_kinds(trade, paper))
            yards = self.agrees(yards_paper, trade=trade)
            is_found, sets = fewest_yards(trade)
            if is_found:
                self.assertSame(yards, ("yards", sets, barred_dealings(trade, len(sets) - 1) if sets else ()))
            else:
                self.assertSame(yards, ("no yards", sets))
            self.assertIsNone(check_yards(trade, paper, yards))

    def test_other_papers(self):
        # Each safe set by itself is enough to be told, and so is each dealing into as few sets.
        trade = LISTS.trade
        paper = kinds_paper(trade)
        for sets in (("ab", "c"), ("ac", "b"), ("a", "bc")):
            self.assertIsNone(check_yards(trade, paper, ("yards", sets, ((("abc",), "abc"),))))
        self.assertEqual(fault_of(check_yards, trade, paper, ("yards", ("a", "b", "c"), ((("abc",), "abc"),))), 2)
        more = [(dealing, "abc") for dealing in kind_dealings("abc", 2)]
        self.assertEqual(fault_of(check_yards, trade, paper, ("yards", ("a", "b", "c"), tuple(more))), 2)
        # Words of sides that say less, and more pairs, hold as well.
        paper = kinds_paper(ROOMS.trade)
        self.assertSame(paper[1], (("ab", verdict_paper(Table(ROOMS.trade))),))
        more = ("rueless", (("a", 0, 1, "first"),), (((0, 2), (1, 2)), ((2, 2), (0, 2))))
        self.assertIsNone(check_kinds(ROOMS.trade, ("kinds", (("ab", more),), ())))
        four = kinds_paper(FOUR.trade)
        self.assertGreater(len(four[2]), 1)
        is_found, sets = fewest_yards(FOUR.trade)
        barred = barred_dealings(FOUR.trade, len(sets) - 1)
        for at, (dealing, _) in enumerate(barred):
            for one in rueful_sets(FOUR.trade):
                lies = any(set(one) <= set(kinds) for kinds in dealing)
                told = barred[:at] + ((dealing, one),) + barred[at + 1:]
                self.assertEqual(fault_of(check_yards, FOUR.trade, four, ("yards", sets, told)), None if lies else at + 1)

    def test_numbers_of_faults(self):
        trade = LISTS.trade
        _, safe, rueful = kinds_paper(trade)
        wrong = ("rueless", ())
        for at in range(3):
            bent = safe[:at] + ((safe[at][0], wrong),) + safe[at + 1:]
            self.assertEqual(fault_of(check_kinds, trade, ("kinds", bent, rueful)), at + 1)
            less = safe[:at] + safe[at + 1:]
            self.assertEqual(fault_of(check_kinds, trade, ("kinds", less, rueful)), 4)
        self.assertEqual(fault_of(check_kinds, trade, ("kinds", safe, (("abc", wrong),))), 4)
        self.assertEqual(fault_of(check_kinds, trade, ("kinds", safe, ())), 4)
        self.assertEqual(fault_of(check_kinds, trade, ("kinds", safe, rueful + rueful)), 0)
        self.assertEqual(fault_of(check_kinds, trade, ("kinds", safe[::-1], rueful)), 0)
        self.assertEqual(fault_of(check_kinds, trade, ("kinds", (("ba",) + safe[0][1:],) + safe[1:], rueful)), 0)
        more = (("a", verdict_paper(Table(cut_kinds(trade, "a")))),) + safe
        self.assertEqual(fault_of(check_kinds, trade, ("kinds", more, rueful)), 6)
        self.assertEqual(fault_of(check_kinds, trade, ("kinds", safe, rueful, ())), 0)
        # A rueful set that is not a least one doesn't fit, though the safe sets are the greatest beside them.
        _, safe, rueful = kinds_paper(ALONE.trade)
        more = rueful + (("bc", verdict_paper(Table(cut_kinds(ALONE.trade, "bc")))),)
        self.assertEqual(fault_of(check_kinds, ALONE.trade, ("kinds", safe, more)), 5)
        paper = kinds_paper(trade)
        right = ("yards", ("ab", "c"), ((("abc",), "abc"),))
        for number, bent in [(0, ("yards", ("c", "ab"), right[2])), (0, ("yards", ("abc",), ())), (0, right[:2]),
                             (0, ("yards", ("ab",), ((("abc",), "abc"),))), (0, ("yards", ["ab", "c"], right[2])),
                             (1, right[:2] + ((),)), (1, right[:2] + (((("ab", "c"), "abc"),),)), (0, right[:2] + ([],)),
                             (1, right[:2] + (((("abc",), "ab"),),)), (2, right[:2] + (right[2] * 2,)),
                             (0, ("no yards", "")), (0, ("no yards", "a"))]:
            self.assertEqual(fault_of(check_yards, trade, paper, bent), number, bent)
        self.assertIsNone(check_yards(STILL.trade, kinds_paper(STILL.trade), ("yards", (), ())))
        self.assertEqual(fault_of(check_yards, STILL.trade, kinds_paper(STILL.trade), ("yards", (), (((), ""),))), 1)
        paper = kinds_paper(ALONE.trade)
        self.assertIsNone(check_yards(ALONE.trade, paper, ("no yards", "bc")))
        for kinds in ["", "a", "b", "c", "ab", "ac", "cb", "abc", ("b", "c")]:
            self.assertEqual(fault_of(check_yards, ALONE.trade, paper, ("no yards", kinds)), 0)
        self.assertEqual(fault_of(check_yards, ALONE.trade, paper, ("yards", ("a", "b", "c"), ())), 0)

    def test_bent_papers(self):
        dice = random.Random(905)
        found = set()
        for spec in cases(906, 8):
            paper = kinds_paper(spec.trade)
            for bent in bends(dice, paper, 60):
                fault = fault_of(check_kinds, spec.trade, bent)
                self.assertEqual(fault, slow_kinds_fault(spec, bent), bent)
                found.add(fault)
                wanted = -1 if fault is not None else None
                self.assertEqual(fault_of(check_yards, spec.trade, bent, yards_paper(spec.trade)), wanted)
            for bent in bends(dice, yards_paper(spec.trade), 60):
                fault = fault_of(check_yards, spec.trade, paper, bent)
                self.assertEqual(fault, slow_yards_fault(spec, bent), bent)
        self.assertTrue({None, 0, 1, 2, 3} <= found, found)

    def test_values_of_other_kinds(self):
        paper = kinds_paper(CROSSED.trade)
        for value in ANY + [list(paper), paper[1:], ("safe",) + paper[1:], paper + ((),)]:
            self.assertEqual(fault_of(check_kinds, CROSSED.trade, value), 0)
            self.assertEqual(fault_of(check_yards, CROSSED.trade, value, None), -1)
            self.assertEqual(fault_of(check_yards, CROSSED.trade, paper, value), 0)
            for at in (1, 2):
                bent = paper[:at] + (value,) + paper[at + 1:]
                self.assertEqual(fault_of(check_kinds, CROSSED.trade, bent), slow_kinds_fault(CROSSED, bent), value)
                yards = yards_paper(CROSSED.trade)
                bent = yards[:at] + (value,) + yards[at + 1:]
                self.assertEqual(fault_of(check_yards, CROSSED.trade, paper, bent), slow_yards_fault(CROSSED, bent), value)


if __name__ == "__main__":
    unittest.main()
