"""Merging: point 9.8."""

from tests.helpers import ORDERS, STRANGE, Case, seeded
from usualdays.errors import BadWay, OtherDays
from usualdays.merges import merge_orders
from usualdays.orders import Order


def plain_merge(way, first, second):
    """The merged layers, by the words of point 9.8."""
    if way == "lower":
        return tuple(min(pair) for pair in zip(first, second))
    if way == "higher":
        greater = [max(pair) for pair in zip(first, second)]
        return tuple(layer - min(greater) for layer in greater)
    pairs = list(zip(first, second))
    return tuple(sum(1 for other in set(pairs) if other < pair) for pair in pairs)


class Merging(Case):
    def merged(self, way, first, second):
        found = merge_orders(way, Order(first), Order(second))
        self.assertIs(type(found), Order)
        self.assertEqual(found.layers, plain_merge(way, first, second))
        return found.layers

    def test_9_8_all_orders(self):
        for days in (2, 4):
            for first in ORDERS[days]:
                for second in ORDERS[days]:
                    for way in ("lower", "higher", "first"):
                        self.merged(way, first, second)

    def test_9_8_gaps_and_more_days(self):
        chance = seeded(98)
        for _ in range(300):
            days = chance.choice((2, 4, 8, 16))
            orders = [Order.lowered([chance.randint(0, chance.choice((3, 10 ** 30))) for _ in range(days)]).layers
                      for _ in range(2)]
            for way in ("lower", "higher", "first"):
                self.merged(way, *orders)

    def test_9_8_examples(self):
        first, second = (0, 2, 5, 2), (4, 1, 0, 3)
        self.assertEqual(self.merged("lower", first, second), (0, 1, 0, 2))
        self.assertEqual(self.merged("higher", first, second), (2, 0, 3, 1))
        self.assertEqual(self.merged("first", first, second), (0, 1, 3, 2))
        self.assertEqual(self.merged("first", second, first), (3, 1, 0, 2))
        self.assertEqual(self.merged("first", (0, 10 ** 30), (10 ** 30, 0)), (0, 1))
        self.assertEqual(self.merged("higher", (0, 10 ** 30), (10 ** 30, 0)), (0, 0))
        self.assertEqual(self.merged("first", (0, 7, 7, 0), (5, 5, 5, 0)), (1, 2, 2, 0))

    def test_9_8_errors(self):
        ways = ("", "Lower", "second", "lower ", *STRANGE)
        for way in ways:
            self.refuses(BadWay(way), merge_orders, way, Order.flat(4), Order.flat(4))
            self.refuses(OtherDays(), merge_orders, way, Order.flat(4), Order.flat(2))
        for way in ("lower", "higher", "first"):
            self.refuses(OtherDays(), merge_orders, way, Order.flat(8), Order.flat(16))
            self.refuses(OtherDays(), merge_orders, way, Order.flat(16), Order.flat(8))
