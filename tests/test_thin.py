"""Thin books: points 8.4 and 8.5."""

from tests.helpers import (FOUR, ONE, THREE, TWO, Case, all_sayings, keeping, plain_lots, plain_tells, seeded,
                           some_book, some_kept_book)
from usualdays.books import Book
from usualdays.compare import compare_books
from usualdays.lifting import Lifted, Stuck, lift
from usualdays.orders import Order
from usualdays.sayings import Saying
from usualdays.thin import Thinned, needed, thin, thin_fault
from usualdays.told import tells

EXAMPLE = Book(TWO, [Saying(10, 12), Saying(15, 10), Saying(15, 12)])
CLASHING = Book(TWO, [Saying(3, 1), Saying(15, 5), Saying(3, 2), Saying(15, 10)])


def plain_needed(book):
    return tuple(number for number in range(len(book)) if not plain_tells(book.without((number,)), book[number]))


def plain_thin(book):
    """The numbers that are kept, by the words of point 8.4."""
    kept = list(range(len(book)))
    for number in sorted(kept, reverse=True):
        rest = [other for other in kept if other != number]
        if plain_tells(book.only(rest), book[number]):
            kept = rest
    return tuple(kept)


def drawn_book(chance, marks, most):
    """A book with and without orders, with sayings that others tell, and with one twice."""
    if chance.random() < 0.5:
        return some_book(chance, marks, most)
    book = some_kept_book(chance, marks, chance.randint(0, most))
    if len(book) == 0 or chance.random() < 0.7:
        return book
    sayings = list(book)
    sayings.insert(chance.randint(0, len(book)), chance.choice(sayings))
    return Book(marks, sayings[:most])


class Thin(Case):
    def thinned(self, book):
        found = thin(book)
        self.assertIsNone(thin_fault(book, found))
        for sequence in (found.kept, found.orders, found.dropped, found.stucks, needed(book)):
            self.assertIs(type(sequence), tuple)
        self.assertTrue(all(type(stuck) is Stuck for stuck in found.stucks))
        self.assertTrue(all(type(order) is Order for order in found.orders))
        left = book.only(found.kept)
        self.assertEqual(compare_books(book, left).verdict, "alike")
        self.assertEqual(needed(left), tuple(range(len(left))))
        again = thin(left)
        self.assertEqual((again.kept, again.dropped), (tuple(range(len(left))), ()))
        self.assertTrue(set(needed(book)) <= set(found.kept))
        return found

    def against_all_orders(self, book):
        found = self.thinned(book)
        self.assertEqual(needed(book), plain_needed(book))
        self.assertEqual(found.kept, plain_thin(book))
        self.assertEqual(found.dropped, tuple(n for n in range(len(book)) if n not in found.kept))
        left = book.only(found.kept)
        self.assertEqual(keeping(left), keeping(book))
        if not keeping(book):
            for lot in plain_lots(len(left))[:-1]:
                self.assertTrue(keeping(left.only(lot)))
        return found

    def test_8_4_one_mark(self):
        sayings = all_sayings(ONE)
        for one in sayings:
            for other in sayings:
                self.against_all_orders(Book(ONE, [one, other]))
        chance = seeded(84)
        for _ in range(150):
            self.against_all_orders(drawn_book(chance, ONE, 5))

    def test_8_4_two_marks(self):
        chance = seeded(841)
        kinds = set()
        for _ in range(200):
            book = drawn_book(chance, TWO, 6)
            found = self.against_all_orders(book)
            kinds.add((bool(found.kept), bool(found.dropped), isinstance(lift(book), Lifted),
                       needed(book) == found.kept))
        self.assertEqual(len(kinds), 8)

    def test_8_4_more_marks(self):
        chance = seeded(842)
        dropped = 0
        for marks in (THREE, FOUR):
            for _ in range(40):
                book = drawn_book(chance, marks, 12)
                found = self.thinned(book)
                dropped += len(found.dropped)
                if isinstance(lift(book), Stuck):
                    left = book.only(found.kept)
                    for number in range(len(left)):
                        self.assertIsInstance(lift(left.without((number,))), Lifted)
        self.assertLess(100, dropped)

    def test_8_4_the_last_ones_go_first(self):
        self.assertEqual(needed(EXAMPLE), (1,))
        self.assertEqual((thin(EXAMPLE).kept, thin(EXAMPLE).dropped), ((0, 1), (2,)))
        turned = Book(TWO, [EXAMPLE[2], EXAMPLE[0], EXAMPLE[1]])
        self.assertEqual((needed(turned), thin(turned).kept, thin(turned).dropped), ((2,), (0, 2), (1,)))

    def test_8_4_no_order(self):
        self.assertEqual((needed(CLASHING), thin(CLASHING).kept), ((), (0, 2)))
        impossible = Book(TWO, [Saying(15, 12), Saying(4, 0), Saying(15, 3)])
        self.assertEqual((needed(impossible), thin(impossible).kept), ((), (1,)))
        self.assertEqual(needed(Book(TWO, [Saying(15, 12), Saying(4, 0)])), (1,))

    def test_8_4_edges(self):
        empty = thin(Book(TWO, []))
        self.assertEqual(vars(empty), {"kept": (), "orders": (), "dropped": (), "stucks": ()})
        self.assertEqual(needed(Book(TWO, [])), ())
        twice = Book(TWO, [Saying(10, 12)] * 2)
        self.assertEqual((needed(twice), thin(twice).kept), ((), (0,)))
        many = Book(FOUR, [Saying(65535, 2)] * 12)
        self.assertEqual((needed(many), thin(many).kept), ((), (0,)))
        # All orders keep a saying with an empty high; no order keeps one with an empty low.
        without_high = Book(TWO, [Saying(6, 6), Saying(6, 0, False)])
        self.assertEqual((needed(without_high), thin(without_high).kept), ((), ()))
        without_low = Book(TWO, [Saying(6, 0), Saying(6, 6, False)])
        self.assertEqual((needed(without_low), thin(without_low).kept), ((), (0,)))

    def test_0_6_results_keep_their_arguments(self):
        things = {"kept": (0,), "orders": (Order([0, 1]),), "dropped": (1,), "stucks": (Stuck(1, (0, None), (0, 0)),)}
        self.assertEqual(vars(Thinned(*things.values())), things)


class Judging(Case):
    def setUp(self):
        self.found = thin(EXAMPLE)

    def judged(self, word, **changes):
        things = dict(vars(self.found), **changes)
        self.assertEqual(thin_fault(EXAMPLE, Thinned(**things)), word, changes)

    def test_8_5_numbers(self):
        self.judged(None)
        stuck, order = self.found.stucks[0], self.found.orders[0]
        for kept, dropped in (((1, 0), (2,)), ((0, 1, 2), (2,)), ((0,), (2,)), ((0, 0, 1), (2,)), ((0, 1), (2, 2)),
                              ((0, 1), (3,)), ((-1, 0, 1), (2,)), ((0, True), (2,)), ((0, 1), (None,)), ((0, 1), ()),
                              ((0, 1), (2, 3)), ((0, 1), (-1,)), ([0, 1], (2,)), ((0, 1), [2]), ((), ()),
                              ((2, 1), (0,)), ((0,), (2, 1))):
            self.judged("numbers", kept=kept, dropped=dropped)
            self.judged("numbers", kept=kept, dropped=dropped, orders=(), stucks=())
            self.judged("numbers", kept=kept, dropped=dropped, orders=(order,) * len(kept),
                        stucks=(stuck,) * len(dropped))

    def test_8_5_count(self):
        orders, stucks = self.found.orders, self.found.stucks
        for changes in ({"orders": ()}, {"orders": orders[:1]}, {"orders": orders + orders[:1]}, {"stucks": ()},
                        {"stucks": stucks * 2}, {"kept": (0,), "dropped": (1, 2)},
                        {"orders": (Order.flat(2),), "stucks": stucks}):
            self.judged("count", **changes)

    def test_8_5_order(self):
        first, second = self.found.orders
        wrong_stuck = (Stuck(0, (), ()),)
        for orders in ((second, first), (first, first), (Order.flat(4), second), (first, Order([0, 1])),
                       (first, Order.flat(8)), (Order((1, 1, 1, 0)), second)):
            self.judged("order", orders=orders)
            self.judged("order", orders=orders, stucks=wrong_stuck)
        # Any such order is right.
        self.judged(None, orders=(Order((1, 0, 1, 0)), Order((0, 1, 0, 0))))
        self.judged(None, orders=(Order((3, 0, 1, 0)), second))

    def test_8_5_stuck(self):
        stuck = self.found.stucks[0]
        for wrong in (Stuck(0, stuck.reasons, stuck.heights), Stuck(stuck.days & 7, stuck.reasons, stuck.heights),
                      Stuck(stuck.days, (None,) * 4, stuck.heights), Stuck(stuck.days, stuck.reasons, ()),
                      lift(Book(TWO, [EXAMPLE[0], Saying(4, 0)]))):
            self.judged("stuck", stucks=(wrong,))
        # The paper is about the kept sayings, not about the whole book.
        self.judged("stuck", stucks=(Stuck(2, (None, 2, None, None), (0,) * 4),))

    def test_8_5_only_what_the_words_ask(self):
        # Which ones are dropped is free, if the papers show it.
        book = Book(TWO, [Saying(15, 12), Saying(10, 12), Saying(15, 10)])
        stuck = lift(book.only((1, 2)), book[0].contrary())
        orders = (lift(book.only((2,)), book[1].contrary()).order, lift(book.only((1,)), book[2].contrary()).order)
        self.assertEqual(thin(book).kept, (0, 2))
        self.assertIsNone(thin_fault(book, Thinned((1, 2), orders, (0,), (stuck,))))

    def test_8_5_wrong_things_drawn(self):
        chance = seeded(85)
        words = set()
        for _ in range(300):
            book = drawn_book(chance, TWO, 4)
            found = thin(book)
            order = Order.lowered([chance.randint(0, 2) for _ in range(4)])
            orders = tuple(order if chance.random() < 0.3 else own for own in found.orders)
            right = all(order.keeps_all(book.only([o for o in found.kept if o != n])) and not order.keeps(book[n])
                        for n, order in zip(found.kept, orders))
            word = thin_fault(book, Thinned(found.kept, orders, found.dropped, found.stucks))
            words.add(word)
            self.assertEqual(word, None if right else "order")
        self.assertEqual(words, {None, "order"})
        self.assertFalse(tells(EXAMPLE.only((0,)), EXAMPLE[1]))
