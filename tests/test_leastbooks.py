"""Least books and carriers: points 8.6 and 8.7."""

from tests.helpers import (FOUR, ONE, THREE, TWO, Case, all_sayings, keeping, plain_lots, seeded, some_book,
                           some_kept_book)
from tests.test_thin import CLASHING, EXAMPLE, drawn_book
from usualdays.books import Book
from usualdays.compare import compare_books
from usualdays.errors import TooMany
from usualdays.leastbooks import carriers, least_books
from usualdays.lifting import Stuck, lift
from usualdays.sayings import Saying
from usualdays.thin import needed, thin


def plain_least(lots):
    """Those lots that hold no smaller one of them."""
    return tuple(lot for lot in lots if not any(set(other) < set(lot) for other in lots))


def least_of(orders):
    return tuple(min(layers) for layers in zip(*orders))


class LeastBooks(Case):
    def both(self, book):
        """What any answer promises."""
        least, carrying = least_books(book), carriers(book)
        for lots in (least, carrying):
            self.assertIs(type(lots), tuple)
            self.assertTrue(all(type(lot) is tuple for lot in lots))
            self.assertEqual(sorted(lots, key=lambda lot: (len(lot), lot)), list(lots))
        self.assertEqual(needed(book), tuple(n for n in range(len(book)) if all(n in lot for lot in least)))
        self.assertIn(thin(book).kept, least)
        for lot in least:
            self.assertTrue(any(set(small) <= set(lot) for small in carrying))
        found = lift(book)
        if isinstance(found, Stuck):
            self.assertEqual(least, carrying)
        else:
            usual = [sum(book[number].usual for number in lot) for lot in carrying]
            self.assertTrue(all(max(found.order.layers) <= many for many in usual))
        return least, carrying

    def against_all_orders(self, book):
        least, carrying = self.both(book)
        orders = keeping(book)
        lots = plain_lots(len(book))
        kept = {lot: keeping(book.only(lot)) for lot in lots}
        self.assertEqual(least, plain_least([lot for lot in lots if kept[lot] == orders]))
        self.assertEqual(carrying, plain_least([lot for lot in lots if least_of(kept[lot]) == least_of(orders)]))
        if not orders:
            self.assertEqual(least, plain_least([lot for lot in lots if not kept[lot]]))
        return least, carrying

    def test_8_6_8_7_one_mark(self):
        sayings = all_sayings(ONE)
        for one in sayings:
            for other in sayings:
                self.against_all_orders(Book(ONE, [one, other]))
        chance = seeded(86)
        for _ in range(60):
            self.against_all_orders(drawn_book(chance, ONE, 5))

    def test_8_6_8_7_two_marks(self):
        chance = seeded(87)
        counts, unlike = set(), 0
        for _ in range(150):
            least, carrying = self.against_all_orders(drawn_book(chance, TWO, 5))
            counts.add(len(least))
            unlike += least != carrying
        self.assertLessEqual({1, 2, 3}, counts)
        self.assertLess(10, unlike)

    def test_8_6_8_7_more_marks(self):
        chance = seeded(861)
        for marks in (THREE, FOUR):
            for _ in range(12):
                book = drawn_book(chance, marks, 6) if chance.random() < 0.5 else some_kept_book(chance, marks, 6)
                least, carrying = self.both(book)
                for lot in least:
                    self.assertEqual(compare_books(book.only(lot), book).verdict, "alike")
                    for number in lot:
                        rest = book.only([other for other in lot if other != number])
                        self.assertNotEqual(compare_books(rest, book).verdict, "alike")

    def test_8_6_8_7_examples(self):
        self.assertEqual((least_books(EXAMPLE), carriers(EXAMPLE)), (((0, 1), (1, 2)),) * 2)
        self.assertEqual((least_books(CLASHING), carriers(CLASHING)), (((0, 2), (1, 3)),) * 2)
        # A saying that all orders of the rest's least order keep, but not all orders of the rest.
        book = Book(TWO, [Saying(15, 1), Saying(6, 2, False)])
        self.assertEqual((least_books(book), carriers(book)), (((0, 1),), ((0,),)))

    def test_8_6_8_7_edges(self):
        self.assertEqual((least_books(Book(TWO, [])), carriers(Book(TWO, []))), (((),), ((),)))
        six = Book(FOUR, [Saying(65535, 2)] * 6)
        self.assertEqual((least_books(six), carriers(six)), (tuple((n,) for n in range(6)),) * 2)
        without_high = Book(TWO, [Saying(6, 6), Saying(6, 0, False)])
        self.assertEqual((least_books(without_high), carriers(without_high)), (((),), ((),)))
        without_low = Book(TWO, [Saying(6, 0), Saying(15, 3), Saying(6, 6, False)])
        self.assertEqual((least_books(without_low), carriers(without_low)), (((0,), (2,)),) * 2)

    def test_8_6_8_7_too_many(self):
        for many in (7, 8, 12):
            book = Book(TWO, [Saying(15, 5)] * many)
            self.refuses(TooMany(many), least_books, book)
            self.refuses(TooMany(many), carriers, book)
        chance = seeded(862)
        while True:
            book = some_book(chance, THREE, 6)
            if len(book) == 6:
                break
        self.both(book)
