"""The examples of the document that the package can run, as they stand there."""

import doctest
import os
import unittest

DEALINGS = '''
    >>> from rueless.dealings import some_dealing
    >>> from rueless.places import parting_row
    >>> from rueless.rows import fronts, row_paper
    >>> from rueless.texts import read_trade
    >>> trade = read_trade("stands 3\\na 0 - 2\\nb 1 2 0\\n0 1 2 0")
    >>> fronts(trade, (0, 1), "ba0"), row_paper(trade, (1,), "b0a")
    ((((0, 1),), ((0, 2), (1, 1)), ((0, 2),), ((0, 1),)), ('serving', (1, 0)))
    >>> some_dealing(trade, (0,), (1,), "bb"), parting_row(trade, 0, 1)
    ((0, 0), 'a')
'''

STRIKES = '''
    >>> from rueless.strikes import verdict_paper
    >>> from rueless.trades import Trade
    >>> from rueless.twos import Table
    >>> rooms = Table(Trade(3, {"a": (2, 2, None), "b": (None, 2, None)}))
    >>> rooms.sides("a"), rooms.rank((1, 2), (0, 2))
    (((0, 1, 'first'),), 1)
    >>> verdict_paper(rooms)
    ('rueless', (('a', 0, 1, 'first'),), (((0, 2), (1, 2)),))
'''

STEWARDS = '''
    >>> from rueless.rankings import first_ranking, first_ring
    >>> from rueless.stewards import Steward, right_takers
    >>> from rueless.trades import Trade
    >>> from rueless.twos import Table
    >>> trade = Trade(3, {"a": [1, 2, 0], "b": [None, 1, 1]}, {"0": [2, 0, 1]})
    >>> steward = Steward(Table(trade))
    >>> first_ring(steward, "a"), first_ranking(steward, "b"), steward.choice((0, 1), "a"), right_takers(steward, (0, 1, 2), "a")
    ((0, 2, 1), (1, 2), 1, (0, 1, 2))
    >>> steward.walk((0, 0), "a0b"), steward.walk((0, 0), "b")
    ((3, (0, 1)), (0, (0, 0)))
'''

# The example of the overview without its lines on stories.
OVERVIEW = '''
    >>> from rueless.rows import can_serve
    >>> from rueless.texts import read_trade
    >>> from rueless.twos import Table
    >>> from rueless.verdict import clashes, is_rueless
    >>> good = read_trade("stands 3\\na 2 2 -\\nb - 2 -")
    >>> bad = read_trade("stands 3\\na 2 - -\\nb - 2 -\\nc 2 2 -")
    >>> is_rueless(Table(good)), is_rueless(Table(bad)), clashes(Table(bad))
    (True, False, (('c', 0, 1),))
    >>> can_serve(bad, [0, 1], "ca"), can_serve(bad, [0, 1], "cb")
    (True, True)
'''


class ExamplesTest(unittest.TestCase):
    def test_examples(self):
        for text in (OVERVIEW, DEALINGS, STRIKES, STEWARDS):
            told = doctest.DocTestParser().get_doctest(text, {}, "example", None, 0)
            self.assertGreater(len(told.examples), 5)
            self.assertEqual(doctest.DocTestRunner(verbose=False).run(told).failed, 0)

    def test_readme(self):
        path = os.path.join(os.path.dirname(os.path.dirname(os.path.abspath(__file__))), "README.md")
        told = doctest.testfile(path, module_relative=False)
        self.assertGreater(told.attempted, 5)
        self.assertEqual(told.failed, 0)


if __name__ == "__main__":
    unittest.main()
