"""Ladders and pins: points 8.10 to 8.12."""

import itertools

from tests.helpers import (FOUR, ONE, ORDERS, THREE, TWO, Case, all_sayings, keeping, plain_keeps, seeded, some_book,
                           some_kept_book)
from tests.test_thin import EXAMPLE
from usualdays.books import Book
from usualdays.errors import OtherDays, TooMany
from usualdays.lifting import Lifted, Stuck, lift
from usualdays.liftjudge import stuck_fault
from usualdays.orders import Order
from usualdays.pins import Pinned, Unpinned, ladder, pin, pinned
from usualdays.sayings import Saying
from usualdays.thin import needed

MARKS = {2: ONE, 4: TWO, 8: THREE, 16: FOUR}


def plain_ladder(layers):
    """The sayings of a ladder, by the words of point 8.10."""
    places = sorted(set(layers))
    closed = [places.index(layer) for layer in layers]
    return [Saying(sum(2 ** day for day, layer in enumerate(closed) if layer >= j),
                   sum(2 ** day for day, layer in enumerate(closed) if layer == j)) for j in range(len(places) - 1)]


def plain_rings(layers):
    sayings = []
    for layer in sorted(set(layers)):
        days = [day for day, own in enumerate(layers) if own == layer]
        if len(days) > 1:
            for place, day in enumerate(days):
                sayings.append(Saying.of_days(2 ** days[(place + 1) % len(days)], 2 ** day, False))
    return sayings


def gapped(chance, layers):
    """Layers that sort alike, with gaps."""
    places = sorted(chance.sample(range(1, 40), max(layers)))
    return tuple(([0] + places)[layer] for layer in layers)


def some_order(chance, days, most):
    return Order.lowered([chance.randint(0, most) for _ in range(days)])


class Ladders(Case):
    def test_8_10_all_orders(self):
        chance = seeded(810)
        for days, orders in ORDERS.items():
            for layers in orders:
                book = ladder(MARKS[days], Order(gapped(chance, layers)))
                self.assertEqual(list(book), plain_ladder(layers))
                self.assertEqual(book.marks, MARKS[days])
                self.assertEqual(lift(book).order.layers, layers)
                for number in range(len(book)):
                    self.assertNotEqual(lift(book.without((number,))).order.layers, layers)

    def test_8_10_no_shorter_book(self):
        sayings = all_sayings(TWO)
        lifted = {0: {lift(Book(TWO, [])).order.layers}, 1: set()}
        for saying in sayings:
            found = lift(Book(TWO, [saying]))
            if isinstance(found, Lifted):
                lifted[1].add(found.order.layers)
        for layers in ORDERS[4]:
            many = len(ladder(TWO, Order(layers)))
            for fewer in range(min(many, 2)):
                self.assertNotIn(layers, lifted[fewer])

    def test_8_10_more_marks(self):
        chance = seeded(8101)
        for days in (8, 16):
            for _ in range(100):
                order = some_order(chance, days, chance.choice((1, 3, 10)))
                book = ladder(MARKS[days], order)
                self.assertEqual(list(book), plain_ladder(order.layers))
                self.assertEqual(lift(book).order, order.closed())
                for number in range(len(book)):
                    self.assertNotEqual(lift(book.without((number,))).order, order.closed())

    def test_8_10_example_and_edges(self):
        self.assertEqual(list(ladder(TWO, Order((1, 1, 1, 0)))), [Saying(15, 8)])
        self.assertEqual(ladder(FOUR, Order.flat(16)), Book(FOUR, []))
        self.assertEqual(list(ladder(ONE, Order((10 ** 30, 0)))), [Saying(3, 2)])

    def test_8_10_errors(self):
        for marks, days in ((ONE, 4), (TWO, 2), (TWO, 8), (FOUR, 8), (THREE, 16)):
            self.refuses(OtherDays(), ladder, marks, Order(range_of(days)))
            self.refuses(OtherDays(), pin, marks, Order(range_of(days)))
        for highest in (12, 13, 14, 15):
            order = Order([min(layer, highest) for layer in range(16)])
            if highest == 12:
                self.assertEqual(len(ladder(FOUR, order)), 12)
            else:
                self.refuses(TooMany(highest), ladder, FOUR, order)


def range_of(days):
    return tuple(range(days))


class Pins(Case):
    def test_8_11_all_orders(self):
        chance = seeded(811)
        for days, orders in ORDERS.items():
            for layers in orders:
                order = Order(gapped(chance, layers))
                book = pin(MARKS[days], order)
                self.assertEqual(list(book), plain_ladder(layers) + plain_rings(layers))
                self.assertEqual(keeping(book), [layers])
                self.assertTrue(order.keeps_all(book))

    def test_8_11_orders_with_gaps_sort_alike(self):
        for layers in ((0, 1, 1, 0), (0, 2, 1, 0), (3, 1, 2, 0), (0, 0, 0, 0), (1, 0, 1, 1)):
            book = pin(TWO, Order(layers))
            for other in itertools.product(range(5), repeat=4):
                if 0 in other:
                    self.assertEqual(Order(other).keeps_all(book), Order(other).closed() == Order(layers).closed())

    def test_8_11_no_shorter_book(self):
        # No saying of a pin can be left out, and no book of one or two sayings does the same.
        short = [Book(TWO, []), *[Book(TWO, [saying]) for saying in all_sayings(TWO)]]
        alone = [keeping(book) for book in short]
        for layers in ORDERS[4]:
            book = pin(TWO, Order(layers))
            self.assertEqual(needed(book), tuple(range(len(book))))
            if len(book) > 1:
                self.assertNotIn([layers], alone)

    def test_8_11_more_marks(self):
        chance = seeded(8111)
        many = 0
        while many < 40:
            days = chance.choice((8, 16))
            order = some_order(chance, days, 12)
            sayings = plain_ladder(order.layers) + plain_rings(order.layers)
            if len(sayings) > 12:
                self.refuses(TooMany(len(sayings)), pin, MARKS[days], order)
                continue
            many += 1
            book = pin(MARKS[days], order)
            self.assertEqual(list(book), sayings)
            self.assertEqual(lift(book).order, order.closed())
            self.assertIsInstance(pinned(book), Pinned)
            for number in range(len(book)):
                self.assertIsInstance(pinned(book.without((number,))), Unpinned)
            other = some_order(chance, days, 12)
            self.assertEqual(other.keeps_all(book), other.closed() == order.closed())

    def test_8_11_examples_and_errors(self):
        self.assertEqual(list(pin(TWO, Order((1, 1, 1, 0)))), [
            Saying(15, 8), Saying.of_days(2, 1, False), Saying.of_days(4, 2, False), Saying.of_days(1, 4, False)])
        self.assertEqual(list(pin(TWO, Order((0, 5, 5, 0)))), [
            Saying(15, 9), Saying.of_days(8, 1, False), Saying.of_days(1, 8, False), Saying.of_days(4, 2, False),
            Saying.of_days(2, 4, False)])
        self.refuses(TooMany(16), pin, FOUR, Order.flat(16))
        self.refuses(TooMany(15), pin, FOUR, Order(range_of(16)))
        self.refuses(TooMany(16), pin, FOUR, Order([min(day, 14) for day in range(16)]))
        self.assertEqual(len(pin(THREE, Order.flat(8))), 8)
        self.assertEqual(len(pin(THREE, Order(range_of(8)))), 7)


class PinnedBooks(Case):
    def judged(self, book):
        found = pinned(book)
        if isinstance(found, Stuck):
            self.assertIsInstance(lift(book), Stuck)
            self.assertEqual((found.days, stuck_fault(book, found)), (lift(book).days, None))
            return found
        self.assertEqual(found.order, lift(book).order)
        if isinstance(found, Pinned):
            sayings = plain_ladder(found.order.layers) + plain_rings(found.order.layers)
            self.assertIs(type(found.stucks), tuple)
            self.assertEqual(len(found.stucks), len(sayings))
            for saying, stuck in zip(sayings, found.stucks):
                self.assertIsNone(stuck_fault(book, stuck, saying.contrary()))
            self.assertLessEqual(len(sayings), len(book))
        else:
            self.assertIs(type(found), Unpinned)
            self.assertTrue(found.other.keeps_all(book))
            self.assertNotEqual(found.other.closed(), found.order)
        return found

    def against_all_orders(self, book):
        found = self.judged(book)
        orders = keeping(book)
        self.assertIs(type(found), (Stuck, Pinned)[len(orders)] if len(orders) < 2 else Unpinned)
        return type(found)

    def test_8_12_one_mark(self):
        sayings = all_sayings(ONE)
        for one in sayings:
            for other in sayings:
                self.against_all_orders(Book(ONE, [one, other]))

    def test_8_12_two_marks(self):
        chance = seeded(812)
        kinds = []
        for _ in range(400):
            book = some_book(chance, TWO, 4) if chance.random() < 0.3 else some_kept_book(chance, TWO, 8)
            kinds.append(self.against_all_orders(book))
        for layers in ORDERS[4]:
            book = pin(TWO, Order(layers))
            self.assertIs(self.against_all_orders(book), Pinned)
            further = [saying for saying in all_sayings(TWO) if plain_keeps(layers, saying)]
            self.assertIs(self.against_all_orders(Book(TWO, chance.sample(further, 3) + list(book))), Pinned)
        self.assertEqual(set(kinds), {Stuck, Pinned, Unpinned})

    def test_8_12_more_marks(self):
        chance = seeded(8121)
        for _ in range(60):
            marks = chance.choice((THREE, FOUR))
            self.judged(some_kept_book(chance, marks, 12))

    def test_8_12_examples_and_edges(self):
        found = pinned(EXAMPLE)
        self.assertIsInstance(found, Unpinned)
        self.assertEqual(found.order.layers, (1, 1, 1, 0))
        self.assertTrue(Order((1, 2, 1, 0)).keeps_all(EXAMPLE))
        self.assertIsInstance(pinned(Book(TWO, [])), Unpinned)
        self.assertIsInstance(pinned(Book(TWO, [Saying(6, 0)])), Stuck)
        # There is no TooMany: a least order of 16 days together would need 16 sayings.
        self.assertIsInstance(pinned(Book(FOUR, [])), Unpinned)
        steps = [Saying(2 ** day + 2 ** (day + 1), 2 ** day) for day in range(12)]
        self.assertIsInstance(pinned(Book(FOUR, steps)), Unpinned)
        self.assertIsInstance(pinned(Book(THREE, steps[:7])), Pinned)

    def test_0_6_results_keep_their_arguments(self):
        order, stucks = Order([0, 1]), (Stuck(1, (0, None), (0, 0)),)
        self.assertEqual(vars(Pinned(order, stucks)), {"order": order, "stucks": stucks})
        self.assertEqual(vars(Unpinned(order, order)), {"order": order, "other": order})
