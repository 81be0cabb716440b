"""Grades and counting: points 6.7 and 6.8."""

from tests.helpers import (FOUR, ONE, STRANGE, THREE, TWO, Case, all_sayings, bits, keeping, lowest, plain_keeps,
                           seeded,
                           some_kept_book)
from usualdays.books import Book
from usualdays.counting import counting_order, counts_of, grades_of
from usualdays.errors import NeedNot, NoDay, NoOrder
from usualdays.expecting import expects
from usualdays.lifting import lift
from usualdays.liftjudge import stuck_fault
from usualdays.orders import Order
from usualdays.sayings import Saying

K = Book(TWO, [Saying(15, 10), Saying(15, 12)])
BROKEN = Book(TWO, [Saying(15, 7), Saying(4, 0)])
NEED_NOT = Book(TWO, [Saying(4, 0), Saying(3, 1, False), Saying(5, 1, False)])
ASKING = (grades_of, counting_order, lambda book: counts_of(book, None))


def plain_counts(book, grades, day):
    """The counts of a day, by the words of point 6.7."""
    greatest = max(grades, default=-1)
    broken = [grade for saying, grade in zip(book, grades) if day in bits(saying.broken)]
    return tuple(broken.count(grade) for grade in range(greatest, -1, -1))


def books(chance, many):
    for _ in range(many):
        marks = chance.choice((ONE, TWO, TWO, THREE, FOUR))
        yield some_kept_book(chance, marks, chance.choice((0, 1, 3, 6, 12)), usual=True)


class Grades(Case):
    def test_6_7_grades_and_counts(self):
        chance = seeded(67)
        highest = 0
        for book in books(chance, 250):
            layers = lift(book).order.layers
            grades = grades_of(book)
            self.assertIs(type(grades), tuple)
            self.assertEqual(grades, tuple(lowest(layers, saying.low) for saying in book))
            highest = max(highest, max(grades, default=0))
            for day in range(book.marks.days):
                counts = counts_of(book, day)
                self.assertIs(type(counts), tuple)
                self.assertEqual(counts, plain_counts(book, grades, day))
        self.assertLess(1, highest)

    def test_6_7_the_layers_by_the_grades(self):
        chance = seeded(671)
        for book in books(chance, 250):
            grades = grades_of(book)
            for day, layer in enumerate(lift(book).order.layers):
                broken = [grade for saying, grade in zip(book, grades) if day in bits(saying.broken)]
                self.assertEqual(layer, 1 + max(broken) if broken else 0)

    def test_6_7_edges(self):
        empty = Book(TWO, [])
        self.assertEqual((grades_of(empty), counts_of(empty, 3), counting_order(empty)), ((), (), Order.flat(4)))
        never_broken = Book(TWO, [Saying(6, 6)])
        self.assertEqual((grades_of(never_broken), counts_of(never_broken, 1)), ((0,), (0,)))
        chain = Book(FOUR, [Saying.of_days(2 ** day, 2 ** (day + 1)) for day in range(12)])
        self.assertEqual(grades_of(chain), tuple(range(12)))
        self.assertEqual(counts_of(chain, 12), (1,) + (0,) * 11)
        self.assertEqual(counts_of(chain, 1), (0,) * 11 + (1,))
        self.assertEqual(counts_of(chain, 0), (0,) * 12)
        twelve = Book(TWO, [Saying(15, 10)] * 12)
        self.assertEqual((grades_of(twelve), counts_of(twelve, 0), counts_of(twelve, 1)), ((0,) * 12, (12,), (0,)))

    def test_6_7_a_place_for_each_grade_from_the_greatest_down(self):
        book = Book(THREE, [Saying.of_days(1, 2), Saying.of_days(2, 4), Saying.of_days(4, 8), Saying.of_days(4, 16)])
        self.assertEqual(grades_of(book), (0, 1, 2, 2))
        self.assertEqual([counts_of(book, day) for day in range(5)],
                         [(0, 0, 0), (0, 0, 1), (0, 1, 0), (1, 0, 0), (1, 0, 0)])
        chance = seeded(672)
        for book in books(chance, 200):
            # A day of layer 1 or more breaks a saying of the grade below; so no grade below the greatest is free.
            grades = grades_of(book)
            self.assertEqual(sorted(set(grades)), list(range(max(grades, default=-1) + 1)))
            self.assertEqual(len(counts_of(book, 0)), len(set(grades)))

    def test_6_7_errors(self):
        for ask in ASKING:
            self.refuses(NeedNot(1), ask, NEED_NOT)
            self.refuses(NeedNot(0), ask, Book(TWO, [Saying(3, 1, False)]))
            with self.assertRaises(NoOrder) as caught:
                ask(BROKEN)
            self.assertIsNone(stuck_fault(BROKEN, caught.exception.stuck))
            self.assertEqual(caught.exception.stuck.days, lift(BROKEN).days)
        for thing in STRANGE + (4, 16, 10 ** 20):
            self.refuses(NoDay(thing), counts_of, K, thing)
            self.refuses(NoDay(thing), counts_of, Book(TWO, []), thing)


class Counting(Case):
    def test_6_8_by_the_words(self):
        chance = seeded(68)
        for book in books(chance, 250):
            order = counting_order(book)
            self.assertIsInstance(order, Order)
            self.assertEqual(order, order.closed())
            days = range(book.marks.days)
            counts = [plain_counts(book, grades_of(book), day) for day in days]
            for one in days:
                for other in days:
                    # Tuples differ first where their items do.
                    self.assertEqual(order[one] < order[other], counts[one] < counts[other])

    def test_6_8_it_keeps_the_book_and_refines_the_least_order(self):
        chance = seeded(681)
        for book in books(chance, 250):
            order, least = counting_order(book), lift(book).order
            self.assertTrue(order.keeps_all(book))
            for one in range(len(order)):
                for other in range(len(order)):
                    if least[one] < least[other]:
                        self.assertLess(order[one], order[other])

    def test_6_8_it_keeps_every_usually_that_the_book_expects(self):
        chance = seeded(682)
        more = 0
        sayings = all_sayings(TWO, usual=True)
        for _ in range(60):
            book = some_kept_book(chance, TWO, chance.randint(0, 5), usual=True)
            order = counting_order(book)
            self.assertIn(order.layers, keeping(book))
            for saying in sayings:
                kept = plain_keeps(order.layers, saying)
                expected = expects(book, saying)
                self.assertTrue(kept or not expected)
                more += kept and not expected
        self.assertLess(0, more)

    def test_example_of_part_6(self):
        self.assertEqual((grades_of(K), counts_of(K, 0), counting_order(K).layers), ((0, 0), (2,), (2, 1, 1, 0)))
        s = Saying(5, 4)
        self.assertEqual((expects(K, s), expects(K, s.contrary()), counting_order(K).keeps(s)), (False, True, True))
