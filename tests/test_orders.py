"""Orders: points 0.2, 3.1 to 3.4 and 3.11."""

from tests.helpers import (FOUR, ORDERS, STRANGE, TWO, Case, all_sayings, bits, keeping, plain_keeps, seeded, some_book,
                           some_saying)
from usualdays.books import Book
from usualdays.errors import BadOrder, NoDay, OtherDays
from usualdays.orders import Order, layer_lines
from usualdays.sayings import Saying

HIGHEST = 10 ** 30


def some_order(chance, days, highest=4):
    return Order.lowered([chance.randint(0, highest) for _ in range(days)])


class Making(Case):
    def test_3_1_attributes(self):
        for layers in ([0, 1], (3, 1, 3, 0), [0] * 8, tuple(range(16)), [0, HIGHEST]):
            order = Order(layers)
            self.assertIs(type(order.layers), tuple)
            self.assertEqual(order.layers, tuple(layers))
            self.assertEqual(len(order), len(layers))
            self.assertEqual(list(order), list(layers))
            self.assertEqual([order[day] for day in range(len(layers))], list(layers))

    def test_3_1_count(self):
        for layers in ([], [0], [0] * 3, (0,) * 5, [0] * 32, None, True, 4, "0000", {0: 0, 1: 0}, Order([0, 0]),
                       range(2), [None] * 3):
            self.refuses(BadOrder("count"), Order, layers)
            self.refuses(BadOrder("count"), Order.lowered, layers)

    def test_3_1_number(self):
        for thing in STRANGE + (HIGHEST + 1,):
            for layers in ([0, thing], (thing, 0), [thing] * 4, [1, 1, 1, thing]):
                self.refuses(BadOrder("number"), Order, layers)
                self.refuses(BadOrder("number"), Order.lowered, layers)

    def test_3_1_bottom(self):
        for layers in ([1, 1], (2, 3, 4, 5), [HIGHEST] * 16):
            self.refuses(BadOrder("bottom"), Order, layers)

    def test_0_5_a_later_change_has_no_effect(self):
        layers = [0, 1, 2, 3]
        order = Order(layers)
        layers[0] = 7
        layers.append(8)
        self.assertEqual(order.layers, (0, 1, 2, 3))

    def test_3_1_equality(self):
        self.assertTrue(Order([0, 1]) == Order((0, 1)))
        self.assertFalse(Order([0, 1]) != Order((0, 1)))
        self.differs(Order([0, 1]), Order([1, 0]), Order([0, 2]), Order([0, 1, 0, 1]), (0, 1), [0, 1], None)

    def test_3_1_no_day(self):
        for layers in ([0, 1], [0] * 16):
            order = Order(layers)
            for thing in STRANGE + (len(layers), slice(0, 1)):
                self.refuses(NoDay(thing), lambda: order[thing])

    def test_3_1_flat(self):
        for days in (2, 4, 8, 16):
            self.assertEqual(Order.flat(days), Order([0] * days))
        for thing in STRANGE + (0, 1, 3, 5, 6, 7, 9, 15, 17, 32, [2]):
            self.refuses(BadOrder("count"), Order.flat, thing)

    def test_3_1_lowered(self):
        self.assertEqual(Order.lowered([3, 5]).layers, (0, 2))
        self.assertEqual(Order.lowered((0, 5)).layers, (0, 5))
        self.assertEqual(Order.lowered((HIGHEST, HIGHEST - 7, HIGHEST, HIGHEST)).layers, (7, 0, 7, 7))
        self.assertEqual(Order.lowered([HIGHEST] * 8), Order.flat(8))
        layers = [3, 5]
        Order.lowered(layers)
        self.assertEqual(layers, [3, 5])


class Asking(Case):
    def test_3_2_least_and_normal(self):
        for layers in ORDERS[4]:
            order = Order(layers)
            for days in range(1, 16):
                least = min(layers[day] for day in bits(days))
                self.assertEqual(order.least(days), least)
                self.assertEqual(bits(order.normal(days)), [day for day in bits(days) if layers[day] == least])
            self.assertIsNone(order.least(0))
            self.assertEqual(order.normal(0), 0)

    def test_3_2_other_days(self):
        for order in (Order([0, 1]), Order([1, 0, 2, 5])):
            for days in (1 << len(order), 65535, (1 << len(order)) + 1):
                self.refuses(OtherDays(), order.least, days)
                self.refuses(OtherDays(), order.normal, days)
        self.assertEqual(Order([0] * 16).least(65535), 0)

    def test_3_2_levels(self):
        self.assertEqual(Order([3, 1, 3, 0]).levels, (8, 2, 5))
        self.assertEqual(Order.flat(16).levels, (65535,))
        self.assertEqual(Order(list(range(16))).levels, tuple(2 ** day for day in range(16)))
        self.assertEqual(Order([0, HIGHEST]).levels, (1, 2))
        self.assertEqual(Order([HIGHEST, 33, 0, 10 ** 20, 17, 9, 33, 64]).levels, (4, 32, 16, 66, 128, 8, 1))

    def test_3_2_closed(self):
        self.assertEqual(Order([30, 1, 30, 0]).closed().layers, (2, 1, 2, 0))
        self.assertEqual(Order([0, HIGHEST]).closed().layers, (0, 1))
        self.assertEqual(Order([HIGHEST, 33, 0, 10 ** 20, 17, 9, 33, 64]).closed().layers, (6, 3, 0, 5, 2, 1, 3, 4))
        for layers in ORDERS[4]:
            self.assertEqual(Order(layers).closed(), Order(layers))
            self.assertEqual(Order([layer * layer * 5 for layer in layers]).closed(), Order(layers))

    def test_3_2_beneath_and_lesser(self):
        for one in ORDERS[4]:
            for other in ORDERS[4]:
                pairs = list(zip(one, other))
                self.assertIs(Order(one).beneath(Order(other)), all(x <= y for x, y in pairs))
                self.assertEqual((Order(one) & Order(other)).layers, tuple(min(pair) for pair in pairs))

    def test_3_2_orders_of_other_days(self):
        self.refuses(OtherDays(), Order([0, 1]).beneath, Order([0] * 4))
        self.refuses(OtherDays(), lambda: Order([0, 1]) & Order([0] * 4))
        self.refuses(OtherDays(), lambda: Order([0] * 16) & Order([0] * 8))


class Keeping(Case):
    def test_3_3_keeps(self):
        for saying in all_sayings(TWO):
            for layers in ORDERS[4]:
                order = Order(layers)
                self.assertIs(order.keeps(saying), plain_keeps(layers, saying))
                self.assertIsNot(order.keeps(saying), order.keeps(saying.contrary()))
                if saying.usual:
                    normal = order.normal(saying.where)
                    self.assertIs(order.keeps(saying), normal & ~saying.then == 0)

    def test_3_3_empty_high_and_empty_low(self):
        for layers in ORDERS[4]:
            order = Order(layers)
            self.assertTrue(order.keeps(Saying(6, 6)))
            self.assertFalse(order.keeps(Saying(6, 9)))
            self.assertTrue(order.keeps(Saying(6, 0, False)))
            self.assertFalse(order.keeps(Saying(6, 15, False)))

    def test_3_3_the_first_that_is_not_kept(self):
        order = Order([0, 1, 2, 3])
        kept, lost = Saying(15, 1), Saying(15, 8)
        for kind in (list, tuple, lambda sayings: Book(TWO, sayings)):
            for sayings, wanted in (([], None), ([kept], None), ([lost], 0), ([kept, lost, kept, lost], 1),
                                    ([kept, kept, kept], None), ([kept, kept, lost], 2)):
                self.assertEqual(order(kind(sayings)), wanted)
                self.assertIs(order.keeps_all(kind(sayings)), wanted is None)
        self.assertEqual(order([kept] * 999 + [lost]), 999)
        self.assertTrue(order.keeps_all([kept] * 1000))

    def test_3_3_other_days(self):
        order = Order([0, 1, 2, 3])
        lost = Saying(15, 8)
        for saying in (Saying(16, 1), Saying(1, 16), Saying(17, 17, False), Saying(3, 65535)):
            self.refuses(OtherDays(), order.keeps, saying)
            for sayings in ([saying], [lost, saying], (lost, lost, saying)):
                self.refuses(OtherDays(), order, sayings)
                self.refuses(OtherDays(), order.keeps_all, sayings)
        self.refuses(OtherDays(), Order([0, 1]), Book(TWO, [lost]))

    def test_3_4_lesser_and_closed_orders(self):
        chance = seeded(34)
        for _ in range(150):
            book = some_book(chance, TWO, 3)
            orders = keeping(book)
            for one in orders[:12]:
                for other in orders[-12:]:
                    self.assertTrue((Order(one) & Order(other)).keeps_all(book))
            order = some_order(chance, 4, 30)
            for saying in book:
                self.assertIs(order.closed().keeps(saying), order.keeps(saying))

    def test_3_4_the_same_for_more_days(self):
        chance = seeded(341)
        for _ in range(200):
            one, other = some_order(chance, 16), some_order(chance, 16)
            saying = some_saying(chance, FOUR)
            if one.keeps(saying) and other.keeps(saying):
                self.assertTrue((one & other).keeps(saying))
            self.assertIs(one.closed().keeps(saying), one.keeps(saying))


class Lines(Case):
    def test_3_11_lines(self):
        self.assertEqual(list(layer_lines(Order([0, 2, 1, 1]))), ["   0: 0", "   1: 2 3", "   2: 1"])
        self.assertEqual(list(layer_lines(Order([0, 5, 7, 0]))), ["   0: 0 3", "   5: 1", "   7: 2"])
        self.assertEqual(list(layer_lines(Order([0, 1234]))), ["   0: 0", "1234: 1"])
        self.assertEqual(list(layer_lines(Order([12345, 0]))), ["   0: 1", "12345: 0"])
        self.assertEqual(list(layer_lines(Order([0, 999]))), ["   0: 0", " 999: 1"])
        self.assertEqual(list(layer_lines(Order.flat(16))), ["   0: " + " ".join(map(str, range(16)))])

    def test_3_11_it_yields(self):
        lines = layer_lines(Order([0, 1]))
        self.assertEqual(next(lines), "   0: 0")
        self.assertEqual(next(lines), "   1: 1")
        self.assertRaises(StopIteration, next, lines)
