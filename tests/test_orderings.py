import itertools
import random
import unittest

from helpers import Case
from rueless.orderings import Orders, least_order, least_ring


def random_ahead(dice, many):
    chance = dice.choice([0.1, 0.2, 0.4])
    return {(p, q): True for p in range(many) for q in range(many) if p != q and dice.random() < chance}


def slow_orders(things, ahead):
    return [order for order in itertools.permutations(things)
            if not any((q, p) in ahead for p, q in itertools.combinations(order, 2))]


def slow_rings(many, ahead):
    """All rings of unlike things, begun at their least ones: the shortest first, then the least."""
    for length in range(2, many + 1):
        for ring in itertools.permutations(range(many), length):
            if ring[0] == min(ring) and all((p, q) in ahead for p, q in zip(ring, ring[1:] + ring[:1])):
                yield ring


class OrderingsTest(Case):
    def test_orders_and_rings(self):
        dice = random.Random(66)
        lengths = set()
        for _ in range(300):
            many = dice.randrange(6)
            ahead = random_ahead(dice, many)
            things = tuple(range(many))
            every = slow_orders(things, ahead)
            orders = Orders(things, ahead)
            self.assertSame(least_order(things, ahead), every[0] if every else None)
            self.assertSame(orders.count_of(things), len(every))
            for number, order in enumerate(every):
                self.assertSame(orders.nth(number), order)
                self.assertSame(orders.number_of(order), number)
            self.assertIsNone(orders.nth(len(every)))
            for order in itertools.islice(itertools.permutations(things), 20):
                self.assertEqual(orders.number_of(order) is None, order not in every)
            told = least_ring(things, lambda thing: sorted(q for p, q in ahead if p == thing))
            self.assertSame(told, next(slow_rings(many, ahead), None))
            self.assertEqual(told is None, bool(every))
            lengths.add(told if told is None else len(told))
        self.assertTrue({None, 2, 3, 4} <= lengths)

    def test_many_things(self):
        things = tuple(range(10))
        self.assertSame(Orders(things, {}).count_of(things), 3628800)
        self.assertSame(Orders(things, {}).nth(3628799), things[::-1])


if __name__ == "__main__":
    unittest.main()
