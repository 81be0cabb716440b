"""Reach: point 10.11."""

from tests.helpers import (FOUR, ONE, STRANGE, THREE, TWO, Case, all_sayings, keeping, plain_keeps, seeded, some_book,
                           some_kept_book, some_saying)
from usualdays.books import Book
from usualdays.errors import BadShelf, OtherDays
from usualdays.lifting import Stuck, lift
from usualdays.liftjudge import stuck_fault
from usualdays.orders import Order
from usualdays.pins import ladder
from usualdays.reach import Reachable, Unreachable, reachable
from usualdays.sayings import Saying
from usualdays.shelves import failing

EMPTY = Book(TWO, [])


def least_of(orders):
    return tuple(min(layers) for layers in zip(*orders))


def some_wishes(chance, marks):
    return [[some_saying(chance, marks) for _ in range(chance.choice((0, 1, 1, 2, 3)))] for _ in range(2)]


class Reach(Case):
    def judged(self, book, wishes, bars, for_all):
        found = reachable(book, wishes, bars, for_all=for_all)
        contraries = [bar.contrary() for bar in bars]
        if isinstance(found, Unreachable):
            against = contraries if not for_all else [] if found.index is None else [contraries[found.index]]
            self.assertTrue(for_all or found.index is None)
            self.assertIsNone(stuck_fault(book, found.stuck, *wishes, *against))
            return found
        self.assertIs(type(found), Reachable)
        self.assertIs(type(found.orders), tuple)
        if for_all and bars:
            self.assertEqual(list(found.orders), [lift(book, *wishes, contrary).order for contrary in contraries])
        else:
            self.assertEqual(list(found.orders), [lift(book, *wishes, *([] if for_all else contraries)).order])
        if for_all:
            # The wishes themselves serve for all.
            self.assertIsNone(failing(book, wishes, range_lot(wishes), wishes, bars, for_all=True))
        elif max(found.orders[0].closed()) <= 12:
            steps = ladder(book.marks, found.orders[0])
            order = lift(book, *steps).order
            self.assertEqual(order, found.orders[0])
            self.assertTrue(order.keeps_all(wishes))
            self.assertFalse(any(order.keeps(bar) for bar in bars))
        return found

    def against_all_orders(self, book, wishes, bars):
        seen = []
        orders = keeping(book, *wishes)
        for for_all in (False, True):
            found = self.judged(book, wishes, bars, for_all)
            if for_all:
                parts = [[layers for layers in orders if not plain_keeps(layers, bar)] for bar in bars] or [orders]
            else:
                parts = [[layers for layers in orders if not any(plain_keeps(layers, bar) for bar in bars)]]
            if all(parts):
                self.assertEqual([order.layers for order in found.orders], [least_of(part) for part in parts])
            else:
                index = parts.index([]) if for_all and orders and bars else None
                self.assertEqual(found.index, index)
            seen.append((for_all, getattr(found, "index", "reached")))
        return seen

    def test_10_11_one_mark(self):
        sayings = all_sayings(ONE)
        for wish in sayings:
            for bar in sayings:
                self.against_all_orders(Book(ONE, [Saying(3, 1)]), [wish], [bar])
                self.against_all_orders(Book(ONE, []), [wish], [bar])

    def test_10_11_two_marks(self):
        chance = seeded(1011)
        seen = []
        for _ in range(250):
            book = some_kept_book(chance, TWO, chance.randint(0, 3))
            if chance.random() < 0.1:
                book = some_book(chance, TWO, 3)
            seen += self.against_all_orders(book, *some_wishes(chance, TWO))
        for key in ((False, "reached"), (False, None), (True, "reached"), (True, None), (True, 0), (True, 1)):
            self.assertLess(3, seen.count(key), key)

    def test_10_11_more_marks(self):
        chance = seeded(10111)
        kinds = set()
        for marks in (THREE, FOUR):
            for _ in range(60):
                wishes, bars = some_wishes(chance, marks)
                for for_all in (False, True):
                    found = self.judged(some_kept_book(chance, marks, 4), wishes, bars, for_all)
                    kinds.add((for_all, type(found)))
        self.assertEqual(len(kinds), 4)

    def test_10_11_no_further_sayings_serve_where_it_says_so(self):
        chance = seeded(10112)
        sayings = all_sayings(ONE)
        for _ in range(60):
            book = some_book(chance, ONE, 1)
            wishes, bars = [chance.choice(sayings)], [chance.choice(sayings)]
            for for_all in (False, True):
                some = any(failing(book, [one, other], (0, 1), wishes, bars, for_all=for_all) is None
                           for one in sayings for other in sayings)
                self.assertEqual(isinstance(reachable(book, wishes, bars, for_all=for_all), Reachable), some)

    def test_10_11_examples(self):
        wish, bar = Saying(12, 4), Saying(5, 1)
        self.assertEqual([order.layers for order in reachable(EMPTY, [wish], [bar]).orders], [(0, 0, 0, 1)])
        found = reachable(EMPTY, [wish], [bar, Saying(3, 1), Saying(12, 8)], for_all=True)
        self.assertEqual([order.layers for order in found.orders], [(0, 0, 0, 1)] * 3)
        found = reachable(EMPTY, [wish], [bar, wish, Saying(12, 12)], for_all=True)
        self.assertEqual((type(found), found.index), (Unreachable, 1))
        found = reachable(EMPTY, [wish], [bar, wish, Saying(12, 12)])
        self.assertEqual((type(found), found.index), (Unreachable, None))
        # Each bar can be kept out alone, but not both of them together.
        bars = [Saying(3, 1), Saying(3, 1, False)]
        self.assertEqual(reachable(EMPTY, [], bars).index, None)
        self.assertEqual([order.layers for order in reachable(EMPTY, [], bars, for_all=True).orders],
                         [(0, 0, 0, 0), (0, 1, 0, 0)])

    def test_10_11_edges(self):
        for for_all in (False, True):
            for wishes, bars in (([], []), ((), ())):
                self.assertEqual(reachable(EMPTY, wishes, bars, for_all=for_all).orders, (Order.flat(4),))
            impossible = reachable(Book(TWO, [Saying(4, 0)]), [], [Saying(3, 1)], for_all=for_all)
            self.assertEqual((impossible.index, type(impossible.stuck)), (None, Stuck))
        self.assertEqual(reachable(EMPTY, [Saying(4, 0)], [Saying(3, 3)], for_all=True).index, None)
        self.assertEqual(reachable(Book(TWO, [Saying(3, 1)] * 12), [Saying(12, 4)] * 6, [Saying(3, 2)] * 6).orders,
                         (Order((0, 1, 0, 1)),))

    def test_10_11_errors(self):
        good = [Saying(3, 1)]
        for thing in (good * 7, None, Saying(3, 1), EMPTY, [None], [Saying(3, 1), 3], {0: Saying(3, 1)}, "a", 0, True):
            for for_all in (False, True):
                self.refuses(BadShelf("wishes"), reachable, EMPTY, thing, good, for_all=for_all)
                self.refuses(BadShelf("wishes"), reachable, EMPTY, thing, thing, for_all=for_all)
                self.refuses(BadShelf("bars"), reachable, EMPTY, good, thing, for_all=for_all)
                self.refuses(BadShelf("bars"), reachable, EMPTY, [Saying(16, 1)], thing, for_all=for_all)
        for saying in (Saying(16, 1), Saying(1, 16), Saying(65535, 0, False)):
            for book in (EMPTY, Book(TWO, [Saying(4, 0)])):
                self.refuses(OtherDays(), reachable, book, [saying], good)
                self.refuses(OtherDays(), reachable, book, good, [Saying(3, 1), saying], for_all=True)
        for thing in STRANGE:
            if thing not in ((0,), [0]):
                self.refuses(BadShelf("bars"), reachable, EMPTY, [], thing)

    def test_0_6_results_keep_their_arguments(self):
        stuck = Stuck(1, (0, None), (0, 0))
        self.assertEqual(vars(Reachable((Order([0, 1]),))), {"orders": (Order([0, 1]),)})
        self.assertEqual(vars(Unreachable(2, stuck)), {"index": 2, "stuck": stuck})


def range_lot(sayings):
    return tuple(range(len(sayings)))
