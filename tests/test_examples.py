"""The examples of the document, as they stand there."""

import doctest
import os
import unittest

OVERVIEW = '''
    >>> from rueless.rows import can_serve
    >>> from rueless.stories import least_story
    >>> from rueless.texts import read_trade
    >>> from rueless.twos import Table
    >>> from rueless.verdict import clashes, is_rueless
    >>> good = read_trade("stands 3\\na 2 2 -\\nb - 2 -")
    >>> bad = read_trade("stands 3\\na 2 - -\\nb - 2 -\\nc 2 2 -")
    >>> is_rueless(Table(good)), is_rueless(Table(bad)), clashes(Table(bad))
    (True, False, (('c', 0, 1),))
    >>> can_serve(bad, [0, 1], "ca"), can_serve(bad, [0, 1], "cb")
    (True, True)
    >>> least_story(Table(bad))
    ('c', 0, 1, 'b', 'a')
'''

DEALINGS = '''
    >>> from rueless.dealings import some_dealing
    >>> from rueless.places import parting_row
    >>> from rueless.rows import fronts, row_paper
    >>> from rueless.texts import read_trade
    >>> trade = read_trade("stands 3\\na 0 - 2\\nb 1 2 0\\n0 1 2 0")
    >>> fronts(trade, (0, 1), "ba0"), row_paper(trade, (1,), "b0a")
    ((((0, 1),), ((0, 2), (1, 1)), ((0, 2),), ((0, 1),)), ('serving', (1, 0)))
    >>> some_dealing(trade, (0,), (1,), "bb"), parting_row(trade, 0, 1)
    ((0, 0), 'a')
'''

STRIKES = '''
    >>> from rueless.strikes import verdict_paper
    >>> from rueless.trades import Trade
    >>> from rueless.twos import Table
    >>> rooms = Table(Trade(3, {"a": (2, 2, None), "b": (None, 2, None)}))
    >>> rooms.sides("a"), rooms.rank((1, 2), (0, 2))
    (((0, 1, 'first'),), 1)
    >>> verdict_paper(rooms)
    ('rueless', (('a', 0, 1, 'first'),), (((0, 2), (1, 2)),))
'''

STEWARDS = '''
    >>> from rueless.rankings import first_ranking, first_ring
    >>> from rueless.stewards import Steward, right_takers
    >>> from rueless.trades import Trade
    >>> from rueless.twos import Table
    >>> trade = Trade(3, {"a": [1, 2, 0], "b": [None, 1, 1]}, {"0": [2, 0, 1]})
    >>> steward = Steward(Table(trade))
    >>> first_ring(steward, "a"), first_ranking(steward, "b"), steward.choice((0, 1), "a"), right_takers(steward, (0, 1, 2), "a")
    ((0, 2, 1), (1, 2), 1, (0, 1, 2))
    >>> steward.walk((0, 0), "a0b"), steward.walk((0, 0), "b")
    ((3, (0, 1)), (0, (0, 0)))
'''

MACHINES = '''
    >>> from rueless.counts import count_rows, numbered_row
    >>> from rueless.growths import growth
    >>> from rueless.machines import bag_machine
    >>> from rueless.trades import Trade
    >>> from rueless.twos import Table
    >>> table = Table(Trade(3, {"a": (2, 2, None), "b": (None, 2, None)}))
    >>> machine, houses = bag_machine(table, (0, 1))
    >>> houses, machine.ways
    (((0, 1), (1, 2), (0, 2), (2, 2)), ((1, 2), (3, 3), (3, None), (None, None)))
    >>> count_rows(machine, 2), growth(machine), numbered_row(machine, 4)
    (3, ('ends', 2), 'ab')
'''

SINGLE = '''
    >>> from rueless.single import Single, foe_tree
    >>> from rueless.stories import least_story
    >>> from rueless.trades import Trade
    >>> from rueless.twos import Table
    >>> trade = Trade(4, {"a": (3, None, None, None), "b": (None, 3, None, None), "c": (3, 3, 2, None)})
    >>> table = Table(trade)
    >>> least_story(table), foe_tree(table, (0, 1))
    (('c', 0, 1, 'b', 'a'), ('c', ((0, 'row', 1, 'a'), (1, 'row', 0, 'b'))))
    >>> single = Single(table, (0, 1, 2))
    >>> single.is_rueless(), single.choice((0, 1, 2), "c")
    (True, 2)
'''

HOMES = '''
    >>> from rueless.homes import Homes
    >>> from rueless.lots import first_sets, is_rueless_lot, lot_clashes
    >>> from rueless.trades import Trade
    >>> from rueless.twos import Table
    >>> tide = Table(Trade(3, {"a": (2, None, None), "b": (None, 2, None), "c": (2, 2, None)}, {"0": (1, 0, 2)}))
    >>> lot_clashes(tide, (0, 1)), is_rueless_lot(tide, (0,)), first_sets(tide)
    ((('c', 0, 1),), True, ((0, 2), (1, 2)))
    >>> sink = Trade(4, {"a": (None, None, 2, None), "c": (2, 3, None, None)})
    >>> homes = Homes(sink, (0, 1, 3))
    >>> Table(sink).side("c", 0, 1), homes.side("c", 0, 1), homes.walk((0, 1), "ccc")
    ('first', 'second', (2, (2, 3), False))
'''

FELLOWS = '''
    >>> from rueless.fellows import barred_pairs, greatest_parts, part_gaps
    >>> from rueless.kindsets import fewest_yards, rueful_sets, safe_sets
    >>> from rueless.trades import Trade
    >>> from rueless.twos import Table
    >>> lists = Trade(3, {"a": (2, None, None), "b": (None, 2, None), "c": (2, 2, None)})
    >>> safe_sets(lists), rueful_sets(lists), fewest_yards(lists)
    (('ab', 'ac', 'bc'), ('abc',), (True, ('ab', 'c')))
    >>> table = Table(lists)
    >>> barred_pairs(table), greatest_parts(table), part_gaps(table, 1)
    (((0, 1, 'c'),), ((0, 2), (1, 2)), (((0,), 1), ((1,), 0)))
'''

WANTS = '''
    >>> from rueless.enough import is_enough, least_enough, missed
    >>> from rueless.ready import lost_ranks
    >>> from rueless.shapes import Rooms
    >>> from rueless.wanted import Wants
    >>> good, bad = Rooms("ab", ["a", "ab"]), Rooms("abc", ["ac", "bc"])
    >>> wants = Wants.of_rows(["aa", "ba"])
    >>> missed(good.trade, wants, [0, 0]), least_enough(good.trade, wants, 3)
    ('b', ((0, 1), (1, 1)))
    >>> bad.verdict()
    ('rueful', 'c', 0, 1, 'b', 'a')
    >>> wants = Wants.of_rows(["ca", "cb"])
    >>> is_enough(bad.trade, wants, [0, 1])
    True
    >>> lost_ranks(bad.trade, wants, [0, 1])
    (((0, (0, 1)), 'c', 2), ((1, (0, 2)), 'b', 1), ((1, (1, 2)), 'a', 1))
'''

DESK = '''
    >>> from rueless.desk import Desk
    >>> desk = Desk("stands 3\\na 0 - 2\\nb 1 2 0\\n0 1 2 0\\n\\n0 1")
    >>> desk.tell("verdict"), desk.tell("come b"), desk.tell("house"), desk.tell("front")
    (('rueless',), ('stand 1',), ('0 2',), ('0 2', '1 1'))
    >>> desk.tell("beat 0"), desk.tell("come a"), desk.tell("ranking b"), desk.tell("undo")
    (('0 1',), ('stand 0',), ('ring 0 2 1',), ('0 1',))
'''


class ExamplesTest(unittest.TestCase):
    def test_examples(self):
        for text in (OVERVIEW, DEALINGS, STRIKES, STEWARDS, MACHINES, SINGLE, HOMES, FELLOWS, WANTS, DESK):
            told = doctest.DocTestParser().get_doctest(text, {}, "example", None, 0)
            self.assertGreater(len(told.examples), 3)
            self.assertEqual(doctest.DocTestRunner(verbose=False).run(told).failed, 0)

    def test_readme(self):
        path = os.path.join(os.path.dirname(os.path.dirname(os.path.abspath(__file__))), "README.md")
        told = doctest.testfile(path, module_relative=False)
        self.assertGreater(told.attempted, 5)
        self.assertEqual(told.failed, 0)


if __name__ == "__main__":
    unittest.main()
