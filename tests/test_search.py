import unittest

from helpers import Case
from rueless.errors import TooGreat
from rueless.search import first_row, reached

# Things by number: where a and b lead from each.
WAYS = {0: (1, 2), 1: (3, 1), 2: (3, None), 3: (0, 4), 4: (None, None)}


def lead(state, letter):
    return WAYS[state]["ab".index(letter)]


class SearchTest(Case):
    def test_first_row(self):
        for end, row in ((4, "aab"), (3, "aa"), (2, "b"), (1, "a"), (5, None)):
            self.assertSame(first_row(0, "ab", lead, lambda state: state == end), row)
        self.assertSame(first_row(0, "ba", lead, lambda state: state == 4), "bab")
        self.assertIsNone(first_row(4, "ab", lead, lambda state: True))

    def test_most(self):
        for end, met in ((4, 4), (3, 3), (2, 2), (1, 1), (5, 5)):
            for most in range(1, 7):
                if most < met:
                    self.fails(TooGreat(most), first_row, 0, "ab", lead, lambda state: state == end, most)
                else:
                    self.assertSame(first_row(0, "ab", lead, lambda state: state == end, most),
                                    first_row(0, "ab", lead, lambda state: state == end))

    def test_reached(self):
        self.assertEqual(reached([1, 2], lambda state: [one for one in WAYS[state] if one is not None]), [1, 2, 3, 0, 4])
        self.assertEqual(reached([4, 4], lambda state: []), [4])
        self.assertEqual(reached([], lambda state: [1]), [])


if __name__ == "__main__":
    unittest.main()
