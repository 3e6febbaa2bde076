import itertools
import random
import unittest

from helpers import ANY, CROSSED, RING, ROOMS, TIDE, Case, Spec, bends, same
from rueless.bills import check_price_story, check_prices, price_paper, price_story_paper
from rueless.checker import paper_holds, paper_words, wrong_papers
from rueless.cores import all_cores, core_holds, core_paper
from rueless.dealings import is_dealing, some_dealing
from rueless.enough import enough_holds, enough_paper, is_enough, missed_holds, missed_paper
from rueless.errors import RuelessError
from rueless.fellows import check_parts, parts_paper
from rueless.growths import growth_holds, growth_paper
from rueless.heedless import heedless_holds, heedless_paper
from rueless.homes import Homes, check_homes
from rueless.houses import house_of
from rueless.kindsets import check_kinds, check_yards, kinds_paper, yards_paper
from rueless.looks import chain_paper, holds_looks, looks_paper
from rueless.lots import check_lot, lot_paper
from rueless.machines import Machine, machine_holds, machine_paper
from rueless.opening import late_fault, late_holds
from rueless.parties import Parties, check_parties
from rueless.places import below_paper, holds_below
from rueless.prices import Prices
from rueless.rankings import holds_joint, holds_ranking, joint_paper, loss_paper, ranking_paper
from rueless.ready import helped_holds, helped_paper, ready_holds, ready_paper
from rueless.rows import holds_row, row_paper
from rueless.single import Single, foe_paper, single_holds, tree_holds
from rueless.slacks import PriceTable, price_story
from rueless.stewards import Steward
from rueless.stories import least_row, least_story, parting_holds, parting_paper, story_holds, story_paper
from rueless.strikes import check_verdict, verdict_paper
from rueless.twins import many_states, states_holds
from rueless.twos import Table
from rueless.verdict import is_rueless
from rueless.wanted import Wants, wants_told

WORDS = ("serving refusal dealing below parts parting rueless rueful joint_ranking joint_ring story heedless careless "
         "kinds together no_parts helped ranking ranking_loss ring looks chain single foe machine states core late lot "
         "lot_rueful homes homes_rueful parties parties_rueful yards no_yards priced dear price_story missed plan ranks "
         "least growth").replace(" ", ",").replace("_", " ").split(",")
# A Growing opens its second place too late.
LATE = Spec(3, {"a": [1, 2, None], "b": [None, 0, 1]}, {"0": [0, 1, 2]})
FORK = Spec(4, {"a": [3, None, 0, None], "b": [None, 3, 1, None], "c": [3, 3, None, None]})
ALONE = Spec(3, {"a": [2, 1, 2], "b": [1, None, 0], "c": [None, 2, 0]}, {"0": [2, 0, 0]})
EASY = Spec(2, {"a": [1, None]})
# No ranking serves both kinds.
JOINT_RING = Spec(4, {"a": [None, 2, 1, 3], "b": [None, 0, 1, None]})


def two_stands(spec):
    return list(itertools.product(range(spec.stands), repeat=2))


def of_trade(spec):
    """(question, paper) of papers of a trade alone, or of its stands, parts and kinds."""
    table = Table(spec.trade)
    yield (), verdict_paper(table)
    yield (), heedless_paper(table)
    yield (), kinds_paper(spec.trade)
    yield (), parts_paper(table)
    for p, q in two_stands(spec):
        yield (p, q), below_paper(spec.trade, p, q)
    yield (kinds_paper(spec.trade),), yards_paper(spec.trade)
    for core in all_cores(table):
        yield (core,), core_paper(table, core)
    for kind in spec.kinds:
        stands = [stand for stand in range(spec.stands) if spec.ways[kind][stand] is not None]
        paper = loss_paper(table, kind, stands[::-1])
        if paper is not None:
            yield (kind,), paper
    if is_rueless(table):
        steward = Steward(table)
        yield (), joint_paper(steward)
        for kind in spec.kinds:
            for paper in (ranking_paper(steward, kind), looks_paper(steward, kind), chain_paper(steward, kind)):
                yield (kind,), paper
        for store in range(spec.stands):
            if all(spec.ways[beat][store] == store for beat in spec.beats):
                paper = late_fault(steward, store)
                if paper is not None:
                    yield (store,), paper
    else:
        yield (), story_paper(table, least_story(table))
        yield (), helped_paper(table)


def of_houses(spec):
    table = Table(spec.trade)
    for house in [(0,), (0, 1), (0, 1, 1)]:
        if is_rueless(table):
            yield (house[::-1],), machine_paper(table, house)
        if many_states(spec.trade, house) is not None:
            yield (house,), many_states(spec.trade, house)
        single = Single(table, house)
        yield (list(house)[::-1],), single.paper() if single.is_rueless() else foe_paper(table, house)
        for row in ("a", "aba", "aaaa"):
            row = "".join(letter for letter in row if letter in spec.letters)
            yield (house[::-1], row), row_paper(spec.trade, house, row)
            dealing = some_dealing(spec.trade, house, (1,), row)
            if dealing is not None:
                yield (house, [1], row), ("dealing", dealing)
        for other in [(1, 0), (1,)]:
            row = least_row(table, house, other)
            if row is not None:
                yield (house, other), parting_paper(table, house, other, row)
        for wants in (Wants.every(spec.trade), Wants.of_rows(["".join(letter for letter in "ca" if letter in spec.letters)] * 2)):
            paper = ready_paper(spec.trade, wants, house)
            yield (wants.ways, house[::-1]), paper
            if not is_enough(spec.trade, wants, house):
                yield (wants.ways, house), missed_paper(spec.trade, wants, house)
        yield (wants.ways, len(house)), enough_paper(spec.trade, wants, len(house))


def of_more(spec):
    table = Table(spec.trade)
    for firsts in [(0,), [1, 0, 0], (2,) * (spec.stands > 2)]:
        yield (firsts,), lot_paper(table, firsts)
        yield (firsts,), Homes(spec.trade, firsts).home_paper()
    for sizes in (None, [2] * len(spec.kinds)):
        yield (sizes,), Parties(spec.trade, sizes).party_paper()
    for prices in ([1, 1, 1, 1], [5, 1, 2, 0]):
        told = Prices(spec.trade, {kind: [None if stand is None else price for stand, price in zip(spec.ways[kind], prices)]
                                   for kind in spec.kinds})
        yield (told.rows,), price_paper(PriceTable(told))
        story = price_story(told)
        if story is not None:
            yield ([list(row) for row in told.rows],), price_story_paper(told, story)
    for machine in (Machine("a", [[0]]), Machine("ab", [[0, 0]]), Machine("ab", [[1, None], [None, None]])):
        yield (machine,), growth_paper(machine)


def all_sheets():
    for spec in (CROSSED, RING, ROOMS, TIDE, LATE, FORK, ALONE, EASY, JOINT_RING):
        for question, paper in itertools.chain(of_trade(spec), of_houses(spec), of_more(spec)):
            yield spec, question, paper


SHEETS = list(all_sheets())


class CheckerTest(Case):
    def test_words(self):
        self.assertSame(self.agrees(paper_words), tuple(sorted(WORDS)))
        self.assertEqual(len(WORDS), 44)
        self.assertEqual({paper[0] for _, _, paper in SHEETS}, set(WORDS), set(WORDS) - {paper[0] for _, _, paper in SHEETS})

    def test_told_papers(self):
        for spec, question, paper in SHEETS:
            self.assertIs(paper_holds(trade=spec.trade, question=question, paper=paper), True, (spec.ways, question, paper))

    def test_other_questions(self):
        """A question with a thing more or less, in a list, or another thing in it."""
        dice = random.Random(1060)
        for spec, question, paper in SHEETS:
            for bent in (question + (0,), question[:-1] if question else (None,), list(question), None, "", question + question
                         if question else ((),)):
                self.assertIs(paper_holds(spec.trade, bent, paper), False, (question, bent, paper[0]))
            if question:
                at = dice.randrange(len(question))
                for value in dice.sample(ANY, 12):
                    bent = question[:at] + (value,) + question[at + 1:]
                    self.assertIn(paper_holds(spec.trade, bent, paper), (True, False))

    def test_the_paper_s_own_question(self):
        for spec, question, paper in SHEETS:
            if paper[0] in ("ranking", "ring", "ranking loss", "looks", "chain"):
                for kind in "abcd":
                    self.assertIs(paper_holds(spec.trade, (kind,), paper), (kind,) == question)
                self.assertIs(paper_holds(spec.trade, (list(question),), paper), False)
            if paper[0] in ("dealing", "growth", "parting"):
                self.assertIs(paper_holds(spec.trade, question, paper + ((),)), False)
            if paper[0] == "core":
                for part in ((), (0,), list(question[0]), question[0][::-1]):
                    self.assertIs(paper_holds(spec.trade, (part,), paper), False)
            if paper[0] == "parting":
                self.assertIs(paper_holds(spec.trade, question[::-1], paper), False)
                self.assertIs(paper_holds(spec.trade, (question[0], (2, 2)), paper), False)
                self.assertIs(paper_holds(spec.trade, (list(question[0])[::-1], question[1][::-1]), paper), True)

    def test_papers_under_other_words(self):
        by_things = {}
        for spec, question, paper in SHEETS:
            by_things.setdefault(paper[0], (spec, question, paper))
        for spec, question, paper in by_things.values():
            for word in WORDS + ["", "serve", "Rueless", "paper"]:
                if word != paper[0]:
                    told = paper_holds(spec.trade, question, (word,) + paper[1:])
                    same_form = {"heedless", "rueless"}
                    if not {word, paper[0]} <= same_form:
                        self.assertIs(told, False, (word, paper[0]))

    def test_other_trades(self):
        for spec, question, paper in SHEETS:
            for value in ANY + [spec.ways]:
                if value == spec.trade:
                    continue
                told = paper_holds(value, question, paper)
                if paper[0] == "growth":
                    self.assertIs(told, True)
                elif value != TIDE.trade:
                    self.assertIs(told, False)

    def test_papers_of_any_values(self):
        for value in ANY:
            for question in ((), (0,), (0, 1), ((0,), (1,), "a"), value, (value,), (value, value)):
                self.assertIs(paper_holds(TIDE.trade, question, value), False)
                for word in WORDS:
                    self.assertIn(paper_holds(TIDE.trade, question, (word, value)), (False, True))
                    self.assertIs(paper_holds(TIDE.trade, question, [word, value]), False)
        for word in WORDS:
            for things in range(5):
                self.assertIs(paper_holds(TIDE.trade, (None,) * things, (word,)), False)
                self.assertIs(paper_holds(None, (None,) * things, (word,)), False)

    def test_bent_papers(self):
        dice = random.Random(1061)
        held = []
        for spec, question, paper in SHEETS:
            for bent in bends(dice, paper, 4):
                held.append(paper_holds(spec.trade, question, bent))
                self.assertIs(held[-1], holds_by_itself(spec.trade, question, bent), bent)
        self.assertGreater(held.count(False), 800)
        self.assertGreater(held.count(True), len(SHEETS))

    def test_wrong_papers(self):
        sheets = [(spec.trade, question, paper) for spec, question, paper in SHEETS[:40]]
        self.assertSame(self.agrees(wrong_papers, sheets=sheets), ())
        self.assertSame(wrong_papers([list(sheet) for sheet in sheets]), ())
        wrong = {3: None, 7: sheets[7][:2], 8: sheets[8] + (0,), 11: (sheets[11][0], list(sheets[11][1]), sheets[11][2]),
                 39: (None,) + sheets[39][1:]}
        bent = [wrong.get(at, sheet) for at, sheet in enumerate(sheets)]
        self.assertSame(self.agrees(wrong_papers, sheets=bent), (3, 7, 8, 11, 39))
        self.assertSame(wrong_papers(tuple(ANY)), tuple(range(len(ANY))))
        self.assertSame(wrong_papers([]), ())


def holds_by_itself(trade, question, paper):
    """Whether the function of the paper's own word lets it by."""
    if type(paper) is not tuple or not paper or not isinstance(paper[0], str) or paper[0] not in WORDS:
        return False
    word = paper[0]
    calls = {"serving": holds_row, "refusal": holds_row, "below": holds_below, "parts": holds_below, "single": single_holds,
             "foe": tree_holds, "machine": machine_holds, "states": states_holds, "late": late_holds, "lot": check_lot,
             "lot rueful": check_lot, "homes": check_homes, "homes rueful": check_homes, "parties": check_parties,
             "parties rueful": check_parties, "yards": check_yards, "no yards": check_yards, "priced": check_prices,
             "dear": check_prices, "price story": check_price_story, "rueless": check_verdict, "rueful": check_verdict,
             "joint ranking": holds_joint, "joint ring": holds_joint, "story": story_holds, "heedless": heedless_holds,
             "careless": heedless_holds, "kinds": check_kinds, "together": check_parts, "no parts": check_parts,
             "helped": helped_holds}
    own = {"ranking": holds_ranking, "ranking loss": holds_ranking, "ring": holds_ranking, "looks": holds_looks,
           "chain": holds_looks, "core": core_holds}
    wanted = {"missed": missed_holds, "plan": ready_holds, "ranks": ready_holds, "least": enough_holds}
    try:
        if word in calls:
            return calls[word](trade, *question, paper) in (True, None)
        if word in own:
            return own[word](trade, paper) and same(paper[1], question[0])
        if word in wanted:
            return wanted[word](trade, wants_told(question[0]), question[1], paper)
        if word == "dealing":
            return len(paper) == 2 and is_dealing(trade, *question, paper[1])
        if word == "parting":
            return parting_holds(trade, paper) and paper[1:3] == tuple(house_of(trade, house) for house in question)
        return growth_holds(question[0], paper)
    except (RuelessError, KeyError, TypeError):
        # A TypeError comes where the word of another question was put in.
        return False


if __name__ == "__main__":
    unittest.main()
