"""Lots: points 4.4 and 4.5."""

import itertools

from tests.helpers import (FOUR, ONE, THREE, TWO, Case, all_sayings, is_sharp, plain_lots, plain_tells, seeded,
                           some_book, some_kept_book, some_saying)
from usualdays.books import Book
from usualdays.errors import NeedNot, OtherDays, TooMany
from usualdays.lots import sharp_lot, sharp_lots, silent_lots, telling_lots, widest_lot
from usualdays.sayings import Saying
from usualdays.told import Told, tell

B = Book(TWO, [Saying(15, 5), Saying(10, 12)])
SHARP = (sharp_lot, sharp_lots, widest_lot)
TELLING = (telling_lots, silent_lots)
FOREIGN = (Saying(16, 1), Saying(1, 16), Saying(65535, 3, False))


class Sharp(Case):
    def compared(self, book, saying):
        sharp = [lot for lot in plain_lots(len(book)) if is_sharp(book, lot, saying)]
        least = [lot for lot in sharp if not any(set(other) < set(lot) for other in sharp)]
        self.assertEqual(sharp_lot(book, saying), sharp[0] if sharp else None)
        self.assertEqual(sharp_lots(book, saying), tuple(least))
        union = tuple(sorted(set().union(*sharp))) if sharp else None
        self.assertEqual(widest_lot(book, saying), union)
        if union is not None:
            self.assertIn(union, sharp)
        return len(least)

    def test_4_4_one_mark(self):
        sayings = all_sayings(ONE, usual=True)
        for many in range(3):
            for chosen in itertools.product(sayings, repeat=many):
                for saying in sayings:
                    self.compared(Book(ONE, chosen), saying)

    def test_4_4_more_marks(self):
        chance = seeded(44)
        counts = set()
        for marks in (TWO, THREE, FOUR):
            for _ in range(150):
                book = some_book(chance, marks, 6, usual=True)
                saying = some_saying(chance, marks, usual=True)
                if chance.random() < 0.5 and len(book):
                    # Weaker than what some sayings say together, so that some lot is sharp.
                    chosen = book.only([n for n in range(len(book)) if chance.random() < 0.6])
                    where = broken = 0
                    for own in chosen:
                        where |= own.where
                        broken |= own.broken
                    if where:
                        saying = Saying(where, where & ~broken | chance.randint(0, marks.all_days))
                counts.add(self.compared(book, saying))
        self.assertLessEqual({0, 1, 2}, counts)

    def test_4_4_the_empty_lot(self):
        for book in (Book(TWO, []), B, Book(TWO, [Saying(4, 0)])):
            self.assertEqual(sharp_lot(book, Saying(6, 6)), ())
            self.assertEqual(sharp_lots(book, Saying(6, 6)), ((),))
            self.compared(book, Saying(6, 6))
        self.assertIsNone(sharp_lot(Book(TWO, []), Saying(6, 2)))
        self.assertEqual(sharp_lots(Book(TWO, []), Saying(6, 2)), ())
        self.assertIsNone(widest_lot(Book(TWO, []), Saying(6, 2)))

    def test_4_4_more_sayings_need_not_be_sharper(self):
        book = Book(TWO, [Saying(3, 1), Saying(12, 4)])
        self.assertEqual(sharp_lots(book, Saying(3, 1)), ((0,),))
        self.assertEqual(widest_lot(book, Saying(3, 1)), (0,))

    def test_4_4_dropping_may_go_on(self):
        # Saying 2 confirms day 3; without it day 2 is confirmed, and without saying 1 nothing is wrong.
        book = Book(TWO, [Saying(3, 1), Saying(4, 4), Saying(12, 8)])
        self.assertEqual(widest_lot(book, Saying(3, 1)), (0,))
        self.compared(book, Saying(3, 1))

    def test_4_4_order_of_the_lots(self):
        book = Book(TWO, [Saying(2, 0), Saying(1, 0), Saying(3, 0), Saying(8, 0), Saying(11, 0)])
        self.assertEqual(sharp_lots(book, Saying(11, 0)), ((4,), (2, 3), (0, 1, 3)))
        self.assertEqual(sharp_lot(book, Saying(11, 0)), (4,))
        self.assertEqual(widest_lot(book, Saying(11, 0)), (0, 1, 2, 3, 4))

    def test_4_4_twelve_sayings(self):
        chance = seeded(441)
        pairs = [Saying.of_days(2 ** 12, 2 ** day) for day in range(6)]
        book = Book(FOUR, pairs + pairs)
        self.assertEqual(self.compared(book, Saying.of_days(2 ** 12, 63)), 64)
        for _ in range(2):
            book = Book(FOUR, [some_saying(chance, FOUR, usual=True) for _ in range(12)])
            self.compared(book, some_saying(chance, FOUR, usual=True))
        self.assertEqual(sharp_lots(Book(TWO, [Saying(10, 12)] * 12), Saying(10, 12)),
                         tuple((number,) for number in range(12)))

    def test_4_4_a_book_that_no_order_keeps_need_not_yield(self):
        book = Book(TWO, [Saying(4, 0)])
        self.assertIsInstance(tell(book, Saying(3, 1)), Told)
        self.assertIsNone(sharp_lot(book, Saying(3, 1)))

    def test_4_4_need_not(self):
        mixed = Book(TWO, [Saying(15, 5), Saying(3, 1, False), Saying(3, 1, False)])
        for ask in SHARP:
            self.refuses(NeedNot(1), ask, mixed, Saying(3, 1))
            self.refuses(NeedNot(1), ask, mixed, Saying(3, 1, False))
            self.refuses(NeedNot(0), ask, Book(TWO, [Saying(3, 1, False)]), Saying(3, 1))
            self.refuses(NeedNot(None), ask, B, Saying(3, 1, False))
            self.refuses(NeedNot(None), ask, Book(TWO, []), Saying(6, 6, False))

    def test_0_9_other_days_come_first(self):
        mixed = Book(TWO, [Saying(3, 1, False)] * 9)
        for ask in SHARP + TELLING:
            for saying in FOREIGN:
                self.refuses(OtherDays(), ask, B, saying)
                self.refuses(OtherDays(), ask, mixed, saying)


class TellingLots(Case):
    def compared(self, book, saying, tells):
        telling = [lot for lot in plain_lots(len(book)) if tells(book.only(lot), saying)]
        silent = [lot for lot in plain_lots(len(book)) if lot not in telling]
        least = [lot for lot in telling if not any(set(other) < set(lot) for other in telling)]
        greatest = [lot for lot in silent if not any(set(other) > set(lot) for other in silent)]
        self.assertEqual(telling_lots(book, saying), tuple(least))
        self.assertEqual(silent_lots(book, saying), tuple(sorted(greatest, key=lambda lot: (-len(lot), lot))))
        return (len(least), len(greatest))

    def test_4_5_all_orders(self):
        chance = seeded(45)
        counts = set()
        for marks in (ONE, TWO):
            for _ in range(120):
                book = some_book(chance, marks, 4) if chance.random() < 0.5 else some_kept_book(chance, marks, 4)
                counts.add(self.compared(book, some_saying(chance, marks), plain_tells))
        self.assertLessEqual({(1, 0), (0, 1), (1, 1), (2, 1)}, counts)

    def test_4_5_more_marks(self):
        chance = seeded(451)
        for marks in (THREE, FOUR):
            for _ in range(12):
                book = some_book(chance, marks, 6)
                saying = some_saying(chance, marks)
                self.compared(book, saying, lambda part, aim: isinstance(tell(part, aim), Told))

    def test_4_5_the_empty_lot(self):
        self.assertEqual(telling_lots(B, Saying(6, 6)), ((),))
        self.assertEqual(silent_lots(B, Saying(6, 6)), ())
        self.assertEqual(telling_lots(Book(TWO, []), Saying(6, 2)), ())
        self.assertEqual(silent_lots(Book(TWO, []), Saying(6, 2)), ((),))

    def test_4_5_order_of_the_silent_lots(self):
        a, b, c = Saying(3, 1), Saying(3, 1), Saying(6, 6)
        self.assertEqual(silent_lots(Book(TWO, [a, c, b, c]), Saying(3, 1)), ((1, 3),))
        # Day 2 lies above day 0 by the sayings 0 and 1 together, or by 2 and 3, or by 4 alone.
        book = Book(THREE, [Saying.of_days(1, 2), Saying.of_days(2, 4), Saying.of_days(1, 8), Saying.of_days(8, 4),
                            Saying.of_days(1, 4)])
        self.assertEqual(telling_lots(book, Saying.of_days(1, 4)), ((4,), (0, 1), (2, 3)))
        self.assertEqual(silent_lots(book, Saying.of_days(1, 4)), ((0, 2), (0, 3), (1, 2), (1, 3)))

    def test_4_5_silent_lots_of_unlike_lengths(self):
        book = Book(THREE, [Saying.of_days(1, 2), Saying.of_days(2, 4), Saying.of_days(2, 4), Saying.of_days(2, 4)])
        self.assertEqual(silent_lots(book, Saying.of_days(1, 4)), ((1, 2, 3), (0,)))

    def test_4_5_too_many(self):
        for many in (9, 12):
            for ask in TELLING:
                self.refuses(TooMany(many), ask, Book(TWO, [Saying(3, 1)] * many), Saying(3, 1))
        eight = Book(TWO, [Saying(3, 1)] * 8)
        self.assertEqual(telling_lots(eight, Saying(3, 1)), tuple((number,) for number in range(8)))
        self.assertEqual(silent_lots(eight, Saying(3, 1)), ((),))
        self.assertEqual(silent_lots(eight, Saying(12, 4)), (tuple(range(8)),))

    def test_example_of_part_4(self):
        c = Saying(15, 13)
        self.assertEqual((sharp_lots(B, c), widest_lot(B, c), telling_lots(B, c), silent_lots(B, c)),
                         (((0,), (1,)), (0, 1), ((0,), (1,)), ((),)))
